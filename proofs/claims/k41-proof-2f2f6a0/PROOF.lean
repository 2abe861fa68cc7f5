import PyProof.Rows.All
import Wide.All
import OpenK.AllK
import Wide.FinOn
import HandS.ForMost
import HandS.Wide
import HandS.IsInst
import HandS.EndBits
import HandS.RaiseMore
import HandS.Evl
import HandS.Flow
import HandS.More
import HandS.Set
import HandS.SetFor
import HandS.Star
import HandS.OwnEq
import HandS.ClsMeth
import HandS.SlotsOwn
import HandS.MethStar
import KE.KOpsOwn
import PyProof.StrBlock2
import PyProof.Rows.StrMul
import HandS.NoneIn
import HandS.Walk
import PyProof.EqKinds
import PyProof.FactsAll.dict_1
import PyProof.FactsAll.subtypes_3
import HandS.Flt
import HandS.CallLocal
import HandS.Codes
import HandS.Defaults
import KE.KDictDisplayH
import HandS.ForSpec
import HandS.ExcValue
import KE.KExcIs
import HandS.ExcField
import HandS.Dict
import KE.KDictPairs
import KE.KeyNested
import PyProof.Rows.TupTab
import HandS.DeepEq
import KE.KStateDown
import HandS.Head0
import HandS.Head1
import HandS.Head2
import PySem.Challenge.RW_soonknown_k41_scripts_made_and_refused
set_option Elab.async false
set_option linter.all false
set_option maxRecDepth 100000
set_option maxHeartbeats 8000000
namespace Sk
open PySem PySem.W
def asked : List Addr := [2, 3, 30, 31, 66, 67, 69, 70, 116, 117, 123, 124, 128, 129, 161, 162, 166, 167, 169, 200, 201, 211, 212, 373, 374, 387, 388, 399, 400, 404, 405, 409, 410, 461, 462, 899, 900, 917, 918, 920, 963, 964, 1027, 1028, 1038, 1039, 1045, 1046, 1052, 1053, 1057, 1058, 1064, 1065, 1071, 1072, 1076, 1077, 1081, 1082, 1088, 1089, 1095, 1096, 1102, 1103, 1109, 1110, 1114, 1115, 1121, 1122, 1126, 1127]
def pick2 (l : Frag) : List Addr → Frag := l.foldr (fun p k as => match as with | [] => [] | a :: r => bif Nat.beq p.1 a then p :: k r else k (a :: r)) fun _ => []
def sub (K : Params → Frag) : Params → Frag := fun P => pick2 (K P) asked
def sHook (K : Params → Frag) (e : ∀ P, asked = (sub K P).map (·.1)) : Hook := kHook (sub K) asked e
def obT (s : SharedT) : List (Option Obj) := asked.map (HandSHeadRun.getT s)
theorem obT_eq {K : Params → Frag} {e : ∀ P, asked = (sub K P).map (·.1)} (s : SharedT) : obT s = (sHook K e).obs s.abs := List.map_congr_left fun a _ => HandSHeadRun.getT_eq s a
def names0 : List PySem.Str := ["_wall", "__name__", "SchemaError", "TooManyStates", "BadScript", "WrongText", "NoSuchText", "is_sign", "is_step", "are_steps", "turned", "summed", "composed", "Script", "DIGITS", "is_whole", "document", "quoted", "FixedTexts", "joined", "name_length", "Lengths", "common_start", "NOWHERE", "NOTHING", "OF_BOTH", "OF_EITHER", "OF_FIRST_ONLY", "OF_ONE_ONLY", "renumbered"]
def names1 : List PySem.Str := ["least_states", "ascending_order", "counts_of", "moves_of_states", "state_behind", "combined", "places_in_order", "accepts_at", "moves_of_pairs", "is_wanted", "text_outside", "states_of_texts", "NONE", "Grammar", "POWERS", "common_size", "END", "digit_ranges", "ranges_behind", "add_to", "Spots", "COMPLETE", "start", "Place", "Builder", "automaton", "Language", "_law_stream", "_law_draw", "_law_choose"]
def names2 : List PySem.Str := ["_law_word", "_law_signs", "_law_steps", "_law_given", "_law_made", "_law_is_step", "_law_odd", "_law_things", "_law_told", "_law_right", "_law_objects_refused"]
def names : List PySem.Str := names0 ++ names1 ++ names2
section
variable {K : Params → Frag} {P : Params}
theorem s_lookup {a : Addr} {r : Option Obj} (_p : (K P).lookup a = r) (q : (sub K P).lookup a = r) : (sub K P).lookup a = r := q
theorem s_codeIn {x0 x1 r} (_p : PySem.W.codeIn (K P) x0 x1 = r) (q : PySem.W.codeIn (sub K P) x0 x1 = r) : PySem.W.codeIn (sub K P) x0 x1 = r := q
theorem s_findCls {x0 x1 x2 r} (_p : PySem.W.findCls (K P) x0 x1 x2 = r) (q : PySem.W.findCls (sub K P) x0 x1 x2 = r) : PySem.W.findCls (sub K P) x0 x1 x2 = r := q
theorem s_findIn {x0 x1 r} (_p : PySem.W.findIn (K P) x0 x1 = r) (q : PySem.W.findIn (sub K P) x0 x1 = r) : PySem.W.findIn (sub K P) x0 x1 = r := q
theorem s_fnIn {x0 r} (_p : PySem.W.fnIn (K P) x0 = r) (q : PySem.W.fnIn (sub K P) x0 = r) : PySem.W.fnIn (sub K P) x0 = r := q
theorem s_hasDictIn {x0 r} (_p : PySem.W.hasDictIn (K P) x0 = r) (q : PySem.W.hasDictIn (sub K P) x0 = r) : PySem.W.hasDictIn (sub K P) x0 = r := q
theorem s_isFn {x0 r} (_p : PySem.W.isFn (K P) x0 = r) (q : PySem.W.isFn (sub K P) x0 = r) : PySem.W.isFn (sub K P) x0 = r := q
theorem s_keepIn {x0 r} (_p : PySem.W.keepIn (K P) x0 = r) (q : PySem.W.keepIn (sub K P) x0 = r) : PySem.W.keepIn (sub K P) x0 = r := q
theorem s_makesIn {x0 r} (_p : PySem.W.makesIn (K P) x0 = r) (q : PySem.W.makesIn (sub K P) x0 = r) : PySem.W.makesIn (sub K P) x0 = r := q
theorem s_mroIn {x0 x1 r} (_p : PySem.W.mroIn (K P) x0 x1 = r) (q : PySem.W.mroIn (sub K P) x0 x1 = r) : PySem.W.mroIn (sub K P) x0 x1 = r := q
theorem s_nsIn {x0 x1 r} (_p : PySem.W.nsIn (K P) x0 x1 = r) (q : PySem.W.nsIn (sub K P) x0 x1 = r) : PySem.W.nsIn (sub K P) x0 x1 = r := q
theorem s_plainGet {x0 x1 r} (_p : PySem.W.plainGet (K P) x0 x1 = r) (q : PySem.W.plainGet (sub K P) x0 x1 = r) : PySem.W.plainGet (sub K P) x0 x1 = r := q
theorem s_plainOver {x0 r} (_p : PySem.W.plainOver (K P) x0 = r) (q : PySem.W.plainOver (sub K P) x0 = r) : PySem.W.plainOver (sub K P) x0 = r := q
theorem s_readsIn {x0 x1 r} (_p : PySem.W.readsIn (K P) x0 x1 = r) (q : PySem.W.readsIn (sub K P) x0 x1 = r) : PySem.W.readsIn (sub K P) x0 x1 = r := q
theorem s_recIn {x0 x1 r} (_p : PySem.W.recIn (K P) x0 x1 = r) (q : PySem.W.recIn (sub K P) x0 x1 = r) : PySem.W.recIn (sub K P) x0 x1 = r := q
theorem s_specialIn {x0 x1 r} (_p : PySem.W.specialIn (K P) x0 x1 = r) (q : PySem.W.specialIn (sub K P) x0 x1 = r) : PySem.W.specialIn (sub K P) x0 x1 = r := q
theorem s_subIn {x0 x1 r} (_p : PySem.W.subIn (K P) x0 x1 = r) (q : PySem.W.subIn (sub K P) x0 x1 = r) : PySem.W.subIn (sub K P) x0 x1 = r := q
theorem s_takesIn {x0 r} (_p : PySem.W.takesIn (K P) x0 = r) (q : PySem.W.takesIn (sub K P) x0 = r) : PySem.W.takesIn (sub K P) x0 = r := q
theorem s_typeIn {x0 r} (_p : PySem.W.typeIn (K P) x0 = r) (q : PySem.W.typeIn (sub K P) x0 = r) : PySem.W.typeIn (sub K P) x0 = r := q
end
end Sk
open PySem PySem.W PyProof.Rows
open PySem PySem.W PyProof.Rows in
local macro_rules
  | `(tactic| o_head ($f $k $a $e)) => `(tactic| (refine HandSHeadRun.head_any (r := OpenLaw.row PySem.Challenge.rw_soonknown_k41_scripts_made_and_refused) (q := view (OpenLaw.row PySem.Challenge.rw_soonknown_k41_scripts_made_and_refused).prog [85]) (H := Sk.sHook $k (fun _ => by kernel_rfl)) (ob := Sk.obT) (M := 9000) (loose := Sk.names) (d := HandSHeadRun.topDef (OpenLaw.row PySem.Challenge.rw_soonknown_k41_scripts_made_and_refused).prog 85) (kwd := []) (fun s => Sk.obT_eq s) (by kernel_rfl) (fun s => by kernel_rfl) (fun w => by intro os; kernel_rfl) (by kernel_rfl) (by kernel_rfl) (by kernel_rfl) (by rfl) (by first | assumption | decide +kernel) (by decide +kernel) ⟨rfl, rfl, rfl, rfl, rfl, by decide +kernel⟩ ?hw ?hc))
namespace Sk
open PySem PySem.W PyProof.Rows
set_option maxHeartbeats 0 in
open_top hd for PySem.Challenge.rw_soonknown_k41_scripts_made_and_refused
end Sk
/-! Rules and words that the proofs of this program share. -/
namespace Sk
open PySem PySem.Spec PyProof.Rows L2 Evl

/-! ## powers of great ints -/
def CPowB (i j : Int) : Prop := 0 ≤ j ∧ (Builtin.Int.intBits i : Int) * j ≤ 2 ^ 27
theorem op_powB {X : Cx} : OpR X (binaryOp .Pow) (rI CPowB fun i j => .int (i ^ j.toNat)) := by
  intro pins s σ H x y u v Q I rx ry h
  obtain ⟨i, j, rfl, rfl, hc, q⟩ := h
  obtain ⟨t, rfl⟩ := rx
  obtain ⟨t', rfl⟩ := ry
  exact pow_int hc.1 hc.2 ⟨.int _, H, I.tok _, ⟨_, rfl⟩, q⟩
theorem bits_of {i : Int} {n : Nat} (h : i.natAbs < 2 ^ n) (h0 : 0 < n) : Builtin.Int.intBits i ≤ n := by
  unfold Builtin.Int.intBits
  split
  · omega
  · have := PySem.Flt.log2_lt_of h0 h
    omega
theorem abs_of_bits {i : Int} {n : Nat} (h : Builtin.Int.intBits i ≤ n) : i.natAbs < 2 ^ n := by
  unfold Builtin.Int.intBits at h
  split at h
  · rename_i e
    have e' : i = 0 := by simpa using e
    subst e'
    exact Nat.two_pow_pos n
  · rename_i e
    have e' : i ≠ 0 := by simpa using e
    have h1 : i.natAbs ≠ 0 := by omega
    have h2 := Nat.lt_log2_self (n := i.natAbs)
    exact Nat.lt_of_lt_of_le h2 (Nat.pow_le_pow_right (by decide) (by omega))

/-! ## the heap beside the source of draws -/
/-- the heap without what stands at st -/
def Hd (st : Addr) (H : Hp) : Hp := fun a => if a = st then none else H a
theorem hd_some {st a : Addr} {H : Hp} {o : HO} (h : Hd st H a = some o) : a ≠ st ∧ H a = some o := by
  unfold Hd at h
  split at h
  · cases h
  · exact ⟨by assumption, h⟩
theorem hd_of {st a : Addr} {H : Hp} {o : HO} (n : a ≠ st) (h : H a = some o) : Hd st H a = some o := by
  unfold Hd; rw [if_neg n]; exact h
theorem hd_le {st : Addr} {H : Hp} : Ex (Hd st H) H := fun _ _ h => (hd_some h).2
/-- what was there beside st is there -/
def Gr (st : Addr) (H H' : Hp) : Prop := Ex (Hd st H) (Hd st H')
theorem Gr.refl {st : Addr} {H : Hp} : Gr st H H := Ex.refl _
theorem Gr.trans {st : Addr} {H H1 H2 : Hp} (a : Gr st H H1) (b : Gr st H1 H2) : Gr st H H2 := Ex.trans a b
/-- the source: two numbers -/
def Strm (st : Addr) (H : Hp) : Prop := ∃ d s : Int, H st = some (.lst [.int d, .int s]) ∧ 0 ≤ d ∧ d.natAbs < 2 ^ 1100000 ∧ 0 ≤ s ∧ s < 2 ^ 31
theorem Strm.some {st : Addr} {H : Hp} (h : Strm st H) : ∃ o, H st = some o := let ⟨_, _, e, _⟩ := h; ⟨_, e⟩
theorem gr_upd {st : Addr} {H : Hp} {o : HO} : Gr st H (upd H st o) := fun a u h => by
  obtain ⟨n, e⟩ := hd_some h
  exact hd_of n (by rw [upd_ne n]; exact e)
theorem gr_new {st p : Addr} {H : Hp} {o : HO} (h : H p = none) : Gr st H (upd H p o) := fun a u e => by
  obtain ⟨n, e⟩ := hd_some e
  exact hd_of n (by rw [upd_ne (ne_of_none e h)]; exact e)
theorem gr_ex {st : Addr} {H H' : Hp} (h : Ex H H') : Gr st H H' := fun a u e => by
  obtain ⟨n, e⟩ := hd_some e
  exact hd_of n (h _ _ e)
theorem Strm.new {st p : Addr} {H : Hp} {o : HO} (h : Strm st H) (hp : H p = none) : Strm st (upd H p o) := by
  obtain ⟨d, s, e, r⟩ := h
  exact ⟨d, s, by rw [upd_ne (ne_of_none e hp)]; exact e, r⟩
theorem Strm.ne {st p : Addr} {H : Hp} (h : Strm st H) (hp : H p = none) : p ≠ st := by
  obtain ⟨o, e⟩ := h.some
  intro z; subst z; rw [e] at hp; cases hp
/-- fresh behind is fresh before -/
theorem Gr.back {st p : Addr} {H H' : Hp} (g : Gr st H H') (s : Strm st H') (h : H' p = none) : Hd st H p = none := by
  cases e : Hd st H p with
  | none => rfl
  | some o =>
    have := (hd_some (g _ _ e)).2
    rw [h] at this; cases this
/-- behind: the source still stands, the rest is there -/
structure Aft (st : Addr) (H H' : Hp) : Prop where
  gr : Gr st H H'
  sm : Strm st H'
theorem Aft.trans {st : Addr} {H H1 H2 : Hp} (a : Aft st H H1) (b : Aft st H1 H2) : Aft st H H2 := ⟨a.gr.trans b.gr, b.sm⟩
theorem Aft.of {st : Addr} {H : Hp} (s : Strm st H) : Aft st H H := ⟨.refl, s⟩
theorem Aft.new {st p : Addr} {H H1 : Hp} {o : HO} (a : Aft st H H1) (h : H1 p = none) : Aft st H (upd H1 p o) := ⟨a.gr.trans (gr_new h), a.sm.new h⟩
/-- a thing of one's own that H does not know changes -/
theorem Aft.mut {st p : Addr} {H H1 : Hp} {o : HO} (a : Aft st H H1) (n : p ≠ st) (h : Hd st H p = none) : Aft st H (upd H1 p o) := by
  refine ⟨fun b u e => ?_, ?_⟩
  · have hb : b ≠ p := by intro z; subst z; rw [h] at e; cases e
    obtain ⟨nb, e1⟩ := hd_some (a.gr _ _ e)
    exact hd_of nb (by rw [upd_ne hb]; exact e1)
  · obtain ⟨d, s, e, r⟩ := a.sm
    exact ⟨d, s, by rw [upd_ne (Ne.symm n)]; exact e, r⟩
theorem Aft.at {st p : Addr} {H H1 : Hp} {o : HO} (a : Aft st H H1) (n : p ≠ st) (h : H p = some o) : H1 p = some o := (hd_some (a.gr _ _ (hd_of n h))).2
end Sk

/-! Data of any depth in the abstract heap; its repr. -/
namespace Sk
open PySem PySem.Spec PyProof.Rows L2 Evl
mutual
inductive Rx (h : Heap) : Value → PyData → Prop
  | none : Rx h .none .none
  | bool (b) : Rx h (.bool b) (.bool b)
  | int (i t) : Rx h (.int i t) (.int i)
  | str (x t) : Rx h (.str x t) (.str x)
  | list {a o vs n ds} (e : h.get? a = some o) (c : o.cls = .type "list") (q : o.data = .seq vs n) (r : RxAll h vs.toList ds) : Rx h (.ref a) (.list ds)
  | tuple {a o vs n ds} (e : h.get? a = some o) (c : o.cls = .type "tuple") (q : o.data = .seq vs n) (r : RxAll h vs.toList ds) : Rx h (.ref a) (.tuple ds)
  | dict {a o es n kvs} (l : (a == sysModules) = false) (e : h.get? a = some o) (c : o.cls = .type "dict") (q : o.data = .dict es n) (r : RxAll h (es.toList.map (·.key)) (kvs.map (·.1)))
      (r2 : RxAll h (es.toList.map (·.val)) (kvs.map (·.2))) : Rx h (.ref a) (.dict kvs)
inductive RxAll (h : Heap) : List Value → List PyData → Prop
  | nil : RxAll h [] []
  | cons {v vs d ds} (x : Rx h v d) (r : RxAll h vs ds) : RxAll h (v :: vs) (d :: ds)
end
mutual
theorem Rx.reads {h : Heap} : ∀ {v : Value} {d : PyData}, Rx h v d → ∃ as, Reads h v d as
  | _, _, .none => ⟨_, .none⟩
  | _, _, .bool b => ⟨_, .bool b⟩
  | _, _, .int i t => ⟨_, .int i t⟩
  | _, _, .str x t => ⟨_, .str x t⟩
  | _, _, .list e c q r => let ⟨_, z⟩ := r.reads; ⟨_, .list e c q z⟩
  | _, _, .tuple e c q r => let ⟨_, z⟩ := r.reads; ⟨_, .tuple e c q z⟩
  | _, _, .dict _ e c q r r2 => let ⟨_, z⟩ := r.reads; let ⟨_, z2⟩ := r2.reads; ⟨_, .dict e c q z z2⟩
theorem RxAll.reads {h : Heap} : ∀ {v : List Value} {d : List PyData}, RxAll h v d → ∃ as, ReadsAll h v d as
  | _, _, .nil => ⟨_, .nil⟩
  | _, _, .cons x r => let ⟨_, z⟩ := x.reads; let ⟨_, z2⟩ := r.reads; ⟨_, .cons z z2⟩
end
def FitsAll (ds : List PyData) : Prop := ∀ t ∈ PyData.shownAll ds, t.length ≤ sizeLine
theorem fits_list {xs : List PyData} (h : (PyData.list xs).shown.length ≤ sizeLine) : (listText (PyData.shownAll xs)).length ≤ sizeLine ∧ FitsAll xs := by
  have z : (listText (PyData.shownAll xs)).length ≤ sizeLine := by simpa only [PyData.shown] using h
  exact ⟨z, fun t m => Nat.le_trans (listText_mem_le m) z⟩
theorem fits_tuple {xs : List PyData} (h : (PyData.tuple xs).shown.length ≤ sizeLine) : (tupleText (PyData.shownAll xs)).length ≤ sizeLine ∧ FitsAll xs := by
  have z : (tupleText (PyData.shownAll xs)).length ≤ sizeLine := by simpa only [PyData.shown] using h
  exact ⟨z, fun t m => Nat.le_trans (tupleText_mem_le m) z⟩
theorem fits_dict {kvs : List (PyData × PyData)} (h : (PyData.dict kvs).shown.length ≤ sizeLine) : (dictText (PyData.shownKv kvs)).length ≤ sizeLine ∧ FitsAll (kvs.map (·.1)) ∧ FitsAll (kvs.map (·.2)) := by
  have z : (dictText (PyData.shownKv kvs)).length ≤ sizeLine := by simpa only [PyData.shown] using h
  refine ⟨z, fun t m => ?_, fun t m => ?_⟩
  · obtain ⟨p, hp, l⟩ := PyData.shownKv_key_le kvs t m
    exact Nat.le_trans l (Nat.le_trans (dictText_mem_le hp) z)
  · obtain ⟨p, hp, l⟩ := PyData.shownKv_val_le kvs t m
    exact Nat.le_trans l (Nat.le_trans (dictText_mem_le hp) z)
/-- what is needed of the parts of a dict -/
theorem two_dict {prog : Program} {w : World} {h : Heap} {es : List DictEntry} {kvs : List (PyData × PyData)} {b1 b2 : List Addr} (k1 : ReprAllK prog w b1 h (PyData.depthAll (kvs.map (·.1))) (es.map (·.key)) (PyData.shownAll (kvs.map (·.1))))
    (k2 : ReprAllK prog w b2 h (PyData.depthAll (kvs.map (·.2))) (es.map (·.val)) (PyData.shownAll (kvs.map (·.2)))) : ReprEntriesK prog w (b1 ++ b2) h (PyData.depthKv kvs) es (PyData.shownKv kvs) := by
  rw [PyData.shownKv_eq]
  exact .of_two es _ _ (k1.more_le (fun _ m => List.mem_append.mpr (.inl m)) (PyData.depthAll_keys_le kvs)) (k2.more_le (fun _ m => List.mem_append.mpr (.inr m)) (PyData.depthAll_vals_le kvs))
mutual
theorem Rx.repr {prog : Program} {w : World} {h : Heap} : ∀ {v : Value} {d : PyData}, Rx h v d → d.showable = true → d.shown.length ≤ sizeLine → ∃ bs, ReadAtMost h d.depth bs ∧ ReprK prog w bs h d.depth v d.shown
  | _, _, .none, _, _ => ⟨[], (fun _ m => nomatch m), by simp only [PyData.shown]; exact .of_is .none _ _ _⟩
  | _, _, .bool b, _, _ => ⟨[], (fun _ m => nomatch m), by simp only [PyData.shown]; exact .of_is (.bool b) _ _ _⟩
  | _, _, .int i t, s, _ => ⟨[], (fun _ m => nomatch m), by simp only [PyData.shown]; exact .of_is (.int t (by simpa [PyData.showable] using s)) _ _ _⟩
  | _, _, .str x t, _, z => ⟨[], (fun _ m => nomatch m), by simp only [PyData.shown] at z ⊢; exact .of_is (.str x t z) _ _ _⟩
  | _, _, .list (a := a) (vs := vs) (ds := xs) e c q r, s, z => by
    obtain ⟨z1, z2⟩ := fits_list z
    obtain ⟨bs, hb, hk⟩ := r.repr (prog := prog) (w := w) (by simpa [PyData.showable] using s) z2
    obtain ⟨as, rr⟩ := (Rx.list e c q r).reads
    have na : a ∉ bs := not_mem_of_deeper rr (by simp only [PyData.depth]; omega) hb
    refine ⟨a :: bs, .cons rr (by simp only [PyData.depth]; omega) hb, ?_⟩
    simp only [PyData.depth, PyData.shown]
    obtain ⟨l⟩ := vs
    cases l with
    | nil =>
      cases (show RxAll h [] xs from r)
      simp only [PyData.shownAll, listText_nil]
      exact ReprK.listEmpty e c q
    | cons x l => exact .list e c q na (by simpa using hk.length_eq) fun i y m => hk.item i y (by simpa using m)
  | _, _, .tuple (a := a) (ds := xs) e c q r, s, z => by
    obtain ⟨z1, z2⟩ := fits_tuple z
    obtain ⟨bs, hb, hk⟩ := r.repr (prog := prog) (w := w) (by simpa [PyData.showable] using s) z2
    obtain ⟨as, rr⟩ := (Rx.tuple e c q r).reads
    have na : a ∉ bs := not_mem_of_deeper rr (by simp only [PyData.depth]; omega) hb
    refine ⟨a :: bs, .cons rr (by simp only [PyData.depth]; omega) hb, ?_⟩
    simp only [PyData.depth, PyData.shown]
    exact .tuple e c q na hk
  | _, _, .dict (a := a) (es := es) (kvs := kvs) l e c q r r2, s, z => by
    obtain ⟨z1, z2, z3⟩ := fits_dict z
    obtain ⟨s1, s2⟩ := PyData.showableKv_split kvs (by simpa [PyData.showable] using s)
    obtain ⟨b1, hb1, k1⟩ := r.repr (prog := prog) (w := w) s1 z2
    obtain ⟨b2, hb2, k2⟩ := r2.repr (prog := prog) (w := w) s2 z3
    obtain ⟨as, rr⟩ := (Rx.dict l e c q r r2).reads
    have hb : ReadAtMost h (PyData.depthKv kvs) (b1 ++ b2) := .append (hb1.mono (PyData.depthAll_keys_le kvs)) (hb2.mono (PyData.depthAll_vals_le kvs))
    have na : a ∉ b1 ++ b2 := not_mem_of_deeper rr (by simp only [PyData.depth]; omega) hb
    refine ⟨a :: (b1 ++ b2), .cons rr (by simp only [PyData.depth]; omega) hb, ?_⟩
    simp only [PyData.depth, PyData.shown]
    exact .dict e c q l na (two_dict k1 k2)
theorem RxAll.repr {prog : Program} {w : World} {h : Heap} : ∀ {vs : List Value} {ds : List PyData}, RxAll h vs ds → PyData.showableAll ds = true → FitsAll ds → ∃ bs, ReadAtMost h (PyData.depthAll ds) bs ∧ ReprAllK prog w bs h (PyData.depthAll ds) vs (PyData.shownAll ds)
  | _, _, .nil, _, _ => ⟨[], (fun _ m => nomatch m), by simp only [PyData.shownAll]; exact .nil⟩
  | _, _, .cons (d := d) (ds := ds) x r, s, z => by
    obtain ⟨s1, s2⟩ : d.showable = true ∧ PyData.showableAll ds = true := by simpa [PyData.showableAll] using s
    unfold FitsAll at z
    simp only [PyData.shownAll, List.mem_cons] at z
    obtain ⟨b1, hb1, k1⟩ := x.repr (prog := prog) (w := w) s1 (z _ (.inl rfl))
    obtain ⟨b2, hb2, k2⟩ := r.repr (prog := prog) (w := w) s2 fun t m => z t (.inr m)
    refine ⟨b1 ++ b2, .append (hb1.mono ?_) (hb2.mono ?_), ?_⟩
    · simp only [PyData.depthAll]; omega
    · simp only [PyData.depthAll]; omega
    · simp only [PyData.depthAll, PyData.shownAll]
      exact .cons ((k1.more fun _ m => List.mem_append.mpr (.inl m)).level_le (by omega)) (k2.more_le (fun _ m => List.mem_append.mpr (.inr m)) (by omega))
end
/-- repr(v), where no repr is running -/
theorem call_repr_rx {prog : Program} {w : World} {A : Around} {E : Value → Shared → Prop} {s : Shared} {v : Value} {d : PyData} {Q : Value → Shared → Prop} (r : Rx s.heap v d) (hs : d.showable = true) (hz : d.shown.length ≤ sizeLine) (hg : A.guards = some [])
    (hu : A.units + (d.depth + 1) < cLine) (hQ : ∀ h' u tk, (∀ b o, s.heap.get? b = some o → h'.get? b = some o) → Q (.str d.shown u) { s with heap := h', toks := tk }) : wpAny (model prog w) A (call (.builtin "repr") [v]) Q E s := by
  have id : ∀ b o, s.heap.get? b = some o → s.heap.get? b = some o := fun _ _ z => z
  have hg1 : A.in1.guards = some [] := hg
  have here : ∀ u tk, Q (.str d.shown u) { s with toks := tk } := fun u tk => hQ s.heap u tk id
  cases r with
  | none => simp only [PyData.shown] at here; exact PySem.P.repr_of_none (here _ _)
  | bool b => simp only [PyData.shown] at here; exact PySem.P.repr_of_bool (here _ _)
  | int i t => simp only [PyData.shown] at here; exact PySem.P.repr_of_int (by simpa [PyData.showable] using hs) (here _ _)
  | str x t => simp only [PyData.shown] at here hz; exact PySem.P.repr_of_str (here _ _) hz
  | @list a o vs n xs e c q r =>
    obtain ⟨z1, z2⟩ := fits_list hz
    obtain ⟨bs, hb, hk⟩ := r.repr (prog := prog) (w := w) (by simpa [PyData.showable] using hs) z2
    obtain ⟨as, rr⟩ := (Rx.list e c q r).reads
    have na : a ∉ bs := not_mem_of_deeper rr (by simp only [PyData.depth]; omega) hb
    simp only [PyData.depth] at hu
    simp only [PyData.shown] at hQ
    refine call_repr_slot (by omega) ⟨o, e, c⟩ F.slot_list_repr.toG ?_
    obtain ⟨l⟩ := vs
    cases l with
    | nil =>
      cases (show RxAll s.heap [] xs from r)
      simp only [PyData.shownAll, listText_nil] at hQ
      exact call_list_repr_empty ⟨o, e, c⟩ e q ⟨_, _, rfl, hQ s.heap _ _ id⟩
    | cons x l =>
      exact call_list_reprK e c q na (by simpa using hk.length_eq) (fun i y m => hk.item i y (by simpa using m)) hg1 (fun b _ => .nil b) (by show A.units + 1 + _ < cLine; omega) id (fun h' u tk k => ⟨_, _, rfl, hQ h' u tk k⟩) z1
  | @tuple a o vs n xs e c q r =>
    obtain ⟨z1, z2⟩ := fits_tuple hz
    obtain ⟨bs, hb, hk⟩ := r.repr (prog := prog) (w := w) (by simpa [PyData.showable] using hs) z2
    obtain ⟨as, rr⟩ := (Rx.tuple e c q r).reads
    have na : a ∉ bs := not_mem_of_deeper rr (by simp only [PyData.depth]; omega) hb
    simp only [PyData.depth] at hu
    simp only [PyData.shown] at hQ
    refine call_repr_slot (by omega) ⟨o, e, c⟩ F.slot_tuple_repr ?_
    exact call_tuple_reprK e c q na hk hg1 (fun b _ => .nil b) (by show A.units + 1 + _ < cLine; omega) id (fun h' u tk k => ⟨_, _, rfl, hQ h' u tk k⟩) z1
  | @dict a o es n kvs l e c q r r2 =>
    obtain ⟨z1, z2, z3⟩ := fits_dict hz
    obtain ⟨s1, s2⟩ := PyData.showableKv_split kvs (by simpa [PyData.showable] using hs)
    obtain ⟨b1, hb1, k1⟩ := r.repr (prog := prog) (w := w) s1 z2
    obtain ⟨b2, hb2, k2⟩ := r2.repr (prog := prog) (w := w) s2 z3
    obtain ⟨as, rr⟩ := (Rx.dict l e c q r r2).reads
    have hb : ReadAtMost s.heap (PyData.depthKv kvs) (b1 ++ b2) := .append (hb1.mono (PyData.depthAll_keys_le kvs)) (hb2.mono (PyData.depthAll_vals_le kvs))
    have na : a ∉ b1 ++ b2 := not_mem_of_deeper rr (by simp only [PyData.depth]; omega) hb
    simp only [PyData.depth] at hu
    simp only [PyData.shown] at hQ
    refine call_repr_slot (by omega) ⟨o, e, c⟩ F.slot_dict_repr ?_
    exact call_dict_reprK e c q l na (two_dict k1 k2) hg1 (fun b _ => .nil b) (by show A.units + 1 + _ < cLine; omega) id (fun h' u tk k => ⟨_, _, rfl, hQ h' u tk k⟩) z1
end Sk

/-! Data of any depth over the abstract heap. -/
namespace Sk
open PySem PySem.Spec PyProof.Rows L2 Evl
mutual
inductive Dq (H : Hp) : V → PyData → Prop
  | non : Dq H .non .none
  | bl (b : Bool) : Dq H (.bl b) (.bool b)
  | int (i : Int) : Dq H (.int i) (.int i)
  | str (x : Str) : Dq H (.str x) (.str x)
  | lst {a xs ds} (e : H a = some (.lst xs)) (r : DqAll H xs ds) : Dq H (.ref a) (.list ds)
  | tup {a xs ds} (e : H a = some (.tup xs)) (r : DqAll H xs ds) : Dq H (.ref a) (.tuple ds)
  | dct {a kvs ds} (e : H a = some (.dK kvs)) (r : DqKv H kvs ds) : Dq H (.ref a) (.dict ds)
inductive DqAll (H : Hp) : List V → List PyData → Prop
  | nil : DqAll H [] []
  | cons {v vs d ds} (x : Dq H v d) (r : DqAll H vs ds) : DqAll H (v :: vs) (d :: ds)
inductive DqKv (H : Hp) : List (Key × V) → List (PyData × PyData) → Prop
  | nil : DqKv H [] []
  | cons {k : Str} {v d kvs ds} (x : Dq H v d) (r : DqKv H kvs ds) : DqKv H ((.inr k, v) :: kvs) ((.str k, d) :: ds)
end
mutual
theorem Dq.mono {H H' : Hp} (e : Ex H H') : ∀ {v d}, Dq H v d → Dq H' v d
  | _, _, .non => .non
  | _, _, .bl b => .bl b
  | _, _, .int i => .int i
  | _, _, .str x => .str x
  | _, _, .lst h r => .lst (e _ _ h) (r.mono e)
  | _, _, .tup h r => .tup (e _ _ h) (r.mono e)
  | _, _, .dct h r => .dct (e _ _ h) (r.mono e)
theorem DqAll.mono {H H' : Hp} (e : Ex H H') : ∀ {v d}, DqAll H v d → DqAll H' v d
  | _, _, .nil => .nil
  | _, _, .cons x r => .cons (x.mono e) (r.mono e)
theorem DqKv.mono {H H' : Hp} (e : Ex H H') : ∀ {v d}, DqKv H v d → DqKv H' v d
  | _, _, .nil => .nil
  | _, _, .cons x r => .cons (x.mono e) (r.mono e)
end
theorem DqAll.length {H : Hp} : ∀ {xs ds}, DqAll H xs ds → xs.length = ds.length
  | _, _, .nil => rfl
  | _, _, .cons _ r => congrArg Nat.succ r.length
theorem DqAll.get {H : Hp} : ∀ {xs ds}, DqAll H xs ds → ∀ {i : Nat} {v : V}, xs[i]? = some v → ∃ d, ds[i]? = some d ∧ Dq H v d
  | _, _, .nil, _, _, e => by simp at e
  | _, _, .cons x r, 0, _, e => by simp at e; subst e; exact ⟨_, rfl, x⟩
  | _, _, .cons x r, i + 1, _, e => by
    obtain ⟨d, h1, h2⟩ := r.get (i := i) (by simpa using e)
    exact ⟨d, by simpa using h1, h2⟩
theorem DqAll.snoc {H : Hp} : ∀ {xs ds}, DqAll H xs ds → ∀ {v d}, Dq H v d → DqAll H (xs ++ [v]) (ds ++ [d])
  | _, _, .nil, _, _, x => .cons x .nil
  | _, _, .cons y r, _, _, x => .cons y (r.snoc x)
theorem DqKv.length {H : Hp} : ∀ {xs ds}, DqKv H xs ds → xs.length = ds.length
  | _, _, .nil => rfl
  | _, _, .cons _ r => congrArg Nat.succ r.length
/-- the names -/
def keyS : PyData → Str
  | .str k => k
  | _ => Str.empty
theorem DqKv.keys {H : Hp} : ∀ {xs ds}, DqKv H xs ds → xs.map (·.1) = (ds.map fun p => keyS p.1).map Sum.inr
  | _, _, .nil => rfl
  | _, _, .cons _ r => by simp only [List.map_cons, r.keys, keyS]
/-- what stands under a name -/
def getD (ds : List (PyData × PyData)) (k : Str) : Option PyData := (ds.find? fun p => decide (keyS p.1 = k)).map (·.2)
theorem DqKv.val {H : Hp} {k : Str} : ∀ {xs ds}, DqKv H xs ds → ∀ {d}, getD ds k = some d → ∃ v, valV xs (.inr k) = some v ∧ Dq H v d
  | _, _, .nil, _, e => by simp [getD] at e
  | _, _, .cons (k := k') (v := v) (d := d') (ds := ds) x r, d, e => by
    by_cases hk : k' = k
    · subst hk
      simp [getD, keyS] at e
      subst e
      exact ⟨v, by simp [valV], x⟩
    · have e' : getD ds k = some d := by simpa [getD, keyS, hk] using e
      obtain ⟨u, h1, h2⟩ := r.val e'
      refine ⟨u, ?_, h2⟩
      rw [← h1]
      simp [valV, hk]
section
variable {X : Cx} {pins : List (Addr × Obj)} {σ : L2.St} {H : Hp} {s : Shared}
mutual
theorem Dq.rx (I : Inv X pins σ H s) : ∀ {v : V} {d : PyData} {u : Value}, Dq H v d → RelV v u → Rx s.heap u d
  | _, _, _, .non, r => by cases r; exact .none
  | _, _, _, .bl b, r => by cases r; exact .bool b
  | _, _, _, .int i, r => by obtain ⟨t, rfl⟩ := r; exact .int i t
  | _, _, _, .str x, r => by obtain ⟨t, rfl⟩ := r; exact .str x t
  | _, _, _, .lst e ra, r => by
    cases r
    obtain ⟨_, its, n, rv, z⟩ := I.hok _ _ e
    exact .list z rfl rfl (by simpa using ra.rx I rv)
  | _, _, _, .tup e ra, r => by
    cases r
    obtain ⟨_, its, rv, o, z, c, n, q⟩ := I.hok _ _ e
    exact .tuple z c q (by simpa using ra.rx I rv)
  | _, _, _, .dct e ra, r => by
    cases r
    obtain ⟨_, low, vs, rel, o, es, ep, z, c, q, _, pr, _⟩ := dk_of I.hok e
    obtain ⟨h1, h2⟩ := ra.rx I rel pr
    exact .dict low z c.1 q h1 h2
theorem DqAll.rx (I : Inv X pins σ H s) : ∀ {v : List V} {d : List PyData} {u : List Value}, DqAll H v d → Vals v u → RxAll s.heap u d
  | _, _, _, .nil, r => by cases r; exact .nil
  | _, _, _, .cons x ra, r => by
    cases r with
    | cons r1 r2 => exact .cons (x.rx I r1) (ra.rx I r2)
theorem DqKv.rx (I : Inv X pins σ H s) : ∀ {kvs : List (Key × V)} {ds : List (PyData × PyData)} {vs : List (Key × Value)} {es : List DictEntry}, DqKv H kvs ds → KV kvs vs → Pairs (mixKind X.prog X.w) es vs →
    RxAll s.heap (es.map (·.key)) (ds.map (·.1)) ∧ RxAll s.heap (es.map (·.val)) (ds.map (·.2))
  | _, _, _, _, .nil, r, p => by
    cases r
    cases p
    exact ⟨.nil, .nil⟩
  | _, _, _, _, .cons (k := k) x ra, r, p => by
    cases r with
    | @cons a b _ _ r1 r2 =>
      obtain ⟨kb, vb⟩ := b
      obtain ⟨h1, h2⟩ := r1
      have h1' : (Sum.inr k : Key) = kb := h1
      subst h1'
      cases p with
      | @cons e kv _ _ p1 p2 p3 =>
        obtain ⟨g1, g2⟩ := ra.rx I r2 p3
        have hk : keyIs (.inr k) e.key = true := p1
        obtain ⟨t, ek⟩ := Value.isStrOf_shape (show Value.isStrOf k e.key = true from hk)
        have ev : e.val = vb := p2
        simp only [List.map_cons]
        rw [ek, ev]
        exact ⟨.cons (.str k t) g1, .cons (x.rx I h2) g2⟩
end
end
/-- repr(v), no repr running around -/
theorem call_reprQ {X : Cx} (hg : X.A.guards = some []) (hu : X.A.units + 64 < cLine) : CallR X (.builtin "repr") (fun xs H Q => ∃ x d, xs = [x] ∧ Dq H x d ∧ d.showable = true ∧ d.shown.length ≤ sizeLine ∧ d.depth ≤ 60 ∧ Q (.str d.shown) H) := by
  intro pins s σ H xs us Q I r h
  obtain ⟨x, d, rfl, hd, hs, hz, hl, q⟩ := h
  obtain ⟨u, rfl, ru⟩ := vals1 r
  exact call_repr_rx (hd.rx I ru) hs hz hg (by omega) fun h' u' tk k => ⟨.str d.shown, H, I.kept k, ⟨_, rfl⟩, q⟩
end Sk

/-! A law's entry where it is known that no repr runs around. -/
namespace Sk
open PySem PySem.Spec PyProof.Rows L2 Evl
/-- the promise of the law's def, called from outside -/
def LawOk (P : Program) (w : World) (K : PySem.W.Frag) (mg : Str → Option Value) (base : Heap) (f : Addr) (fd : FuncData) (x : Str) (sp : Sp) : Prop :=
  ∀ (s : Shared) (H : Hp) (args : Args) (u : Value) (v : V) (Q : VK), Env0 P w K mg base callerA [] s H → BindsTo s fd args [(x, u)] → RelV v u → sp [v] H Q E0 → codeAny (model P w) callerA (.call (.ref f) args) (CR CX0 [] P w H s Q E0) s
/-- by its body -/
theorem law_of {P : Program} {w : World} {K : PySem.W.Frag} {mg : Str → Option Value} {base : Heap} {k : Nat} {f : Addr} {fd : FuncData} {x qual : Str} {st : Stmt} {N : List Str} {y : Str} {sp : Sp} (F : Fun K x qual st f fd) (S : FnScope N [y] (defScope st)) (hr : Room (k + 1) callerA)
    (hbody : ∀ (cdv : Value) (s : Shared) (H : Hp) (v : V) (Q : VK), Room k (callerA.deeper (envOfC qual (defScope st) s.heap.objs.size f cdv)) → (callerA.deeper (envOfC qual (defScope st) s.heap.objs.size f cdv)).guards = some [] → sp [v] H Q E0 →
      ∃ t, PSs (cxOf CX0 P w K mg base N qual (defScope st) f cdv callerA [] s H E0).nox (defBody st) t ∧ t { nx := fun _ H' => Q .non H', rt := Q } (start N [v]) H) : LawOk P w K mg base f fd y sp := by
  intro s H args u v Q e0 hb rv hsp
  obtain ⟨oc, od, kV, doc, pm, an, cdv, ct, osl, rfl, lk, hcd⟩ := F.ex
  have keep : ∀ b o, base.get? b = some o → s.heap.get? b = some o := fun b o z => (e0.bs b o z).1
  have kin := e0.mod.kin.keeps keep
  have kind : ∀ q ∈ [(y, u)], (defScope st).names.lookup q.1 = some .local ∨ ((defScope st).names.lookup q.1 = some .cell ∧ ((cellsFrom (s.heap.objs.size + 1) (defScope st).names []).lookup q.1).isSome = true) := by
    intro q hq
    obtain rfl := List.mem_singleton.mp hq
    exact (S.par y (List.mem_singleton.mpr rfl)).imp (fun z => z) fun z => ⟨z, PySem.W.cellsFrom_some _ _ _ (.inl z)⟩
  refine codeAny_call_function hr.depth (kin _ _ lk) rfl S.co S.gen rfl (PySem.W.codeRec_of kin hcd) (hb _ _ _ _ (wpAny_newFunctionEnv_cells S.kind kind fun env he s1 z => ?_))
  subst he
  refine ⟨(e0.mod.nolimit.keeps keep).keeps z.toInCall.keep, codeAny_func ?_⟩
  obtain ⟨t, ht, hq⟩ := hbody cdv s H v Q (hr.deeper _) rfl hsp
  have I : Inv (cxOf CX0 P w K mg base N qual (defScope st) f cdv callerA [] s H E0) [] (start N [v]) H s1 := inv_start (us := [u]) S hr.hd e0 rfl (.cons rv .nil) z
  refine wpAny_mono (ht.nox.run [] s1 _ H _ I hq) (fun fl s' hs => ?_) fun e s' hs => hs
  cases fl with
  | ret r =>
    obtain ⟨v', _, H', J, rr, q⟩ := hs
    exact ⟨v', H', J.os, J.bare, J.base, J.hok, rr, q⟩
  | next =>
    obtain ⟨_, H', J, q⟩ := hs
    exact ⟨.non, H', J.os, J.bare, J.base, J.hok, rfl, q⟩
  | brk => obtain ⟨_, _, _, q⟩ := hs; exact q.elim
  | cont => obtain ⟨_, _, _, q⟩ := hs; exact q.elim
/-- from the heap behind the top -/
theorem law_enter {P : Program} {w : World} {K : PySem.W.Frag} {mg mb : Str → Option Value} {fa a : Addr} {fd : FuncData} {x : Str} {sp : Sp} {s : Shared} {vs : List Value} {ns : List Int} (KX : K.In s.heap) (hns : s.heap.Ns mainGlobals mg) (hb : s.heap.Ns builtinsNs mb)
    (hbb : ∀ n : Str, n ≠ "__name__" → mb n = bootBuiltins n) (hlim : s.heap.NoLimit) (hg : s.gens = #[]) (ha : s.heap.get? a = some { cls := .type "list", data := .seq vs.toArray }) (hi : IntsAre vs ns) (hl : ns.length ≤ sizeLine)
    (F : ∀ base : Heap, K.In base → base.Ns mainGlobals mg → LawOk P w K mg base fa fd x sp) (hbind : ∀ (s : Shared) (u : Value), BindsTo s fd ⟨[u], []⟩ [(x, u)])
    (hsp : ∀ H : Hp, Only H → SqL K H a (ns.map V.int) → sp [.ref a] H (fun v _ => v = .bl true) E0) :
    codeAny (model P w) callerA (.call (.ref fa) ⟨[.ref a], []⟩) (fun r s' => r = .ok (.ret (.bool true)) ∧ OldK s.heap s'.heap ∧ s'.os = s.os ∧ AllBare s'.gens) s := by
  have rv := vals_ints hi
  have lenV := hi.length
  suffices core : ∀ H : Hp, Only H → SqL K H a (ns.map V.int) → HOk P w H s.heap → (∀ b, H b ≠ none → b = a ∧ K.lookup a = none) →
      codeAny (model P w) callerA (.call (.ref fa) ⟨[.ref a], []⟩) (fun r s' => r = .ok (.ret (.bool true)) ∧ OldK s.heap s'.heap ∧ s'.os = s.os ∧ AllBare s'.gens) s by
    cases hk : K.lookup a with
    | some o =>
      have e := KX a o hk
      rw [ha] at e
      cases e
      refine core (fun _ => none) (fun _ => .inl rfl) (.inr ⟨_, vs.toArray, _, hk, rfl, rfl, rfl, ?_, by simpa using rv⟩) (fun b u z => nomatch z) fun b z => absurd rfl z
      rw [List.size_toArray, lenV]; exact hl
    | none =>
      let ob : Obj := { cls := .type "list", data := .seq vs.toArray }
      have at_ : ∀ b u, (fun b => if b = a then some (HO.frz ob (.lst (ns.map V.int))) else none : Hp) b = some u → b = a ∧ u = .frz ob (.lst (ns.map V.int)) := by
        intro b u z
        by_cases h : b = a
        · subst h; simp at z; exact ⟨rfl, z.symm⟩
        · simp [h] at z
      refine core (fun b => if b = a then some (.frz ob (.lst (ns.map V.int))) else none) (fun b => ?_) (.inl (.inr ⟨ob, by simp⟩)) (fun b u z => ?_) fun b z => ?_
      · by_cases h : b = a
        · exact .inr ⟨ob, ns.map V.int, by simp [h]⟩
        · exact .inl (by simp [h])
      · obtain ⟨rfl, rfl⟩ := at_ b u z
        exact ⟨ha, by rw [List.length_map]; exact hl, vs, _, rv, ha⟩
      · by_cases h : b = a
        · exact ⟨h, hk⟩
        · exact absurd (by simp [h]) z
  intro H hO hS hok hA
  have dictNone : ∀ {b o es ep}, s.heap.get? b = some o → o.data = .dict es ep → H b = none := by
    intro b o es ep e d
    cases q : H b with
    | none => rfl
    | some u =>
      have := (hA b (by simp [q])).1
      subst this
      rw [ha] at e; cases e; cases d
  have nsK : ∀ {b m}, s.heap.Ns b m → (hidT s.heap H).Ns b m := fun ⟨o, es, ep, e, d, r⟩ => ⟨o, es, ep, hidT_get e (dictNone e d), d, r⟩
  have kin : K.In (hidT s.heap H) := fun b o e => hidT_get (KX b o e) (by
    cases q : H b with
    | none => rfl
    | some u =>
      obtain ⟨rfl, n⟩ := hA b (by simp [q])
      rw [n] at e; cases e)
  have e0 : Env0 P w K mg (hidT s.heap H) callerA [] s H := by
    refine ⟨rfl, ⟨kin, nsK hns, ⟨mb, nsK hb, hbb⟩, ?_⟩, fun b o e => of_hidT e, Nat.le_of_eq (hidT_size _ _), trivial, fun b z => ?_, hok, .of_eq hg⟩
    · obtain ⟨mc, h1, h2⟩ := hlim
      exact ⟨mc, nsK h1, h2⟩
    · cases (show b ∈ ([] : List Addr) from z)
  refine codeAny_mono (F _ kin (nsK hns) s H ⟨[.ref a], []⟩ (.ref a) (.ref a) _ e0 (hbind s (.ref a)) rfl (hsp H hO hS)) fun r s' h => ?_
  rcases r with e | fl
  · exact (show False from h).elim
  cases fl with
  | next => exact (show False from h).elim
  | brk => exact (show False from h).elim
  | cont => exact (show False from h).elim
  | ret u =>
    obtain ⟨v, H', os, bare, un, hok', r', q⟩ := h
    cases (show v = .bl true from q)
    cases (show u = Value.bool true from r')
    refine ⟨rfl, .of_keep fun b o e => ?_, os, bare⟩
    cases q : H b with
    | none => exact un.keep b o e q (fun z => by cases (show b ∈ ([] : List Addr) from z)) (fun z => by cases z)
    | some u =>
      rcases hO b with z | ⟨ob, xs, z⟩
      · rw [q] at z; cases z
      · have e1 := (hok b _ z).1
        rw [e] at e1; cases e1
        exact (hok' b _ (un.frzs b _ _ z)).1
/-- the end of a law row: the script has at most n ints of bounded size -/
theorem walk_law {l : PySem.W.OpenLaw} {n : Nat} {q : Program} {loose : List Str} {XP : (Str → Option Value) → Heap → Prop} {YP : World → Heap → Prop} {d : DefRec} {K : Params → PySem.W.Frag} {sp : World → Sp} {x : Str} (hn : l.most = some n) (hn2 : n ≤ sizeLine) (hdf : d.params.defaults = [])
    (hY : ∀ (w : World) (h : Heap), YP w h → (K w.params).In h)
    (F : ∀ (w : World) (mg : Str → Option Value) (fa : Addr) (h : Heap), (K w.params).In h → h.Ns mainGlobals mg → mg d.name = some (.ref fa) → ∃ fd : FuncData, (∀ (s : Shared) (u : Value), BindsTo s fd ⟨[u], []⟩ [(x, u)]) ∧
        ∀ base : Heap, (K w.params).In base → base.Ns mainGlobals mg → LawOk l.prog w (K w.params) mg base fa fd x (sp w))
    (hsp : ∀ (w : World) (H : Hp) (a : Addr) (ns : List Int), ns.length ≤ n → (∀ z ∈ ns, Builtin.Int.intBits z ≤ 1048576) → SqL (K w.params) H a (ns.map V.int) → sp w [.ref a] H (fun v _ => v = .bl true) E0) :
    PySem.W.WalkO q loose XP YP l.row.toRowW d [] (fun f vs => PySem.call f vs) := by
  refine Att.attach_callB hn hdf fun w s₀ s₁ mg mb fa o pm cd doc a vs ns G Y ho hd hcd hmg hobj hints hlen hbits hg => ?_
  obtain ⟨fd, hb, hF⟩ := F w mg fa _ (hY w _ Y) G.T.g hmg
  exact law_enter (hY w _ Y) G.T.g G.T.b G.T.builtins G.T.nolimit hg hobj hints (Nat.le_trans hlen hn2) hF hb fun H _ hS => hsp w H a ns hlen hbits hS
end Sk

/-! Values and their documents, in plain Lean. -/
namespace Sk
open PySem PySem.Spec PyProof.Rows L2 Evl
/-! ## sorted names -/
def leS (a b : Str) : Bool := !ltCps b.cps.toList a.cps.toList
def sortS (ks : List Str) : List Str := ks.mergeSort leS
theorem leS_iff {a b : Str} : leS a b = true ↔ ¬ b.cps.toList < a.cps.toList := by
  unfold leS; rw [ltCps_eq]; simp
theorem leS_trans {a b c : Str} (h1 : leS a b = true) (h2 : leS b c = true) : leS a c = true := by
  rw [leS_iff] at *
  have g1 : a.cps.toList ≤ b.cps.toList := h1
  have g2 : b.cps.toList ≤ c.cps.toList := h2
  exact List.le_trans g1 g2
theorem leS_total (a b : Str) : (leS a b || leS b a) = true := by
  rw [Bool.or_eq_true, leS_iff, leS_iff]
  by_cases h : b.cps.toList < a.cps.toList
  · exact .inr fun z => List.lt_irrefl _ (List.lt_trans h z)
  · exact .inl h
theorem leS_anti {a b : Str} (h1 : leS a b = true) (h2 : leS b a = true) : a = b := by
  rw [leS_iff] at *
  exact ext_toList (List.le_antisymm (show a.cps.toList ≤ b.cps.toList from h1) h2)
theorem rising_pairwise : ∀ (p : Str) (l : List Str), risingS p l = true → (p :: l).Pairwise fun a b => leS a b = true
  | p, [], _ => by simp
  | p, x :: r, h => by
    unfold risingS at h
    rw [Bool.and_eq_true] at h
    have ih := rising_pairwise x r h.2
    refine List.pairwise_cons.mpr ⟨fun y hy => ?_, ih⟩
    rcases List.mem_cons.mp hy with rfl | hy
    · exact h.1
    · exact leS_trans h.1 (List.rel_of_pairwise_cons ih hy)
theorem sorted_eq {ys ks : List Str} (hp : ys.Perm ks) (hs : sortedS ys = true) : ys = sortS ks := by
  have h1 : ys.Pairwise fun a b => leS a b = true := by
    cases ys with
    | nil => exact .nil
    | cons x r => exact rising_pairwise x r hs
  have h2 := List.pairwise_mergeSort (le := leS) (fun a b c => leS_trans) leS_total ks
  exact List.Perm.eq_of_pairwise (fun a b _ _ => leS_anti) h1 h2 (hp.trans (List.mergeSort_perm ks leS).symm)
theorem sortS_perm (ks : List Str) : (sortS ks).Perm ks := List.mergeSort_perm ks leS
/-! ## documents -/
def quo (x : Str) : Str := ("\"" : Str) ++ x ++ "\""
def lookS (l : List (Str × Str)) (k : Str) : Str := ((l.find? fun p => decide (p.1 = k)).map (·.2)).getD Str.empty
def memS (l : List (Str × Str)) (k : Str) : Str := quo k ++ ":" ++ lookS l k
mutual
def doc : PyData → Str
  | .bool b => if b then "true" else "false"
  | .int i => Str.ofString (toString i)
  | .str x => quo x
  | .list xs => ("[" : Str) ++ Str.join "," (docAll xs) ++ "]"
  | .dict kvs => ("{" : Str) ++ Str.join "," ((sortS (kvs.map fun p => keyS p.1)).map (memS (docKv kvs))) ++ "}"
  | .none => Str.empty
  | .tuple _ => Str.empty
def docAll : List PyData → List Str
  | [] => []
  | x :: r => doc x :: docAll r
def docKv : List (PyData × PyData) → List (Str × Str)
  | [] => []
  | (k, x) :: r => (keyS k, doc x) :: docKv r
end
theorem docAll_get : ∀ (xs : List PyData) (i : Nat) (x : PyData), xs[i]? = some x → (docAll xs)[i]? = some (doc x)
  | [], _, _, h => by simp at h
  | y :: r, 0, x, h => by simp at h; subst h; simp [docAll]
  | y :: r, i + 1, x, h => by simp only [docAll, List.getElem?_cons_succ] at h ⊢; exact docAll_get r i x h
theorem docAll_len : ∀ xs : List PyData, (docAll xs).length = xs.length
  | [] => by simp [docAll]
  | x :: r => by simp [docAll, docAll_len r]
theorem docAll_mem : ∀ (xs : List PyData) (t : Str), t ∈ docAll xs → ∃ x ∈ xs, t = doc x
  | [], _, h => by simp [docAll] at h
  | y :: r, t, h => by
    simp only [docAll, List.mem_cons] at h
    rcases h with rfl | h
    · exact ⟨y, by simp, rfl⟩
    · obtain ⟨x, hx, e⟩ := docAll_mem r t h
      exact ⟨x, by simp [hx], e⟩
theorem lookS_get : ∀ (ds : List (PyData × PyData)) (k : Str) (d : PyData), getD ds k = some d → lookS (docKv ds) k = doc d
  | [], _, _, h => by simp [getD] at h
  | (a, x) :: r, k, d, h => by
    by_cases e : keyS a = k
    · simp [getD, e] at h
      subst h
      simp [docKv, lookS, e]
    · have h' : getD r k = some d := by simpa [getD, e] using h
      rw [← lookS_get r k d h']
      simp [docKv, lookS, e]
theorem getD_mem : ∀ (ds : List (PyData × PyData)) (k : Str), k ∈ ds.map (fun p => keyS p.1) → ∃ d, getD ds k = some d ∧ ∃ p ∈ ds, p.2 = d
  | [], _, h => by simp at h
  | (a, x) :: r, k, h => by
    by_cases e : keyS a = k
    · exact ⟨x, by simp [getD, e], (a, x), by simp, rfl⟩
    · simp only [List.map_cons, List.mem_cons] at h
      rcases h with h | h
      · exact absurd h.symm e
      · obtain ⟨d, h1, p, h2, h3⟩ := getD_mem r k h
        exact ⟨d, by simpa [getD, e] using h1, p, by simp [h2], h3⟩
/-! ## the values that are drawn: of depth at most n -/
def okS (m : Nat) (x : Str) : Prop := x.length ≤ m ∧ ∀ c ∈ x.cps.toList, c < 128
def Gd (b : Bool) : Nat → PyData → Prop
  | 0, .int i => b = true ∧ i = 0
  | 0, _ => False
  | _ + 1, .bool _ => True
  | _ + 1, .int i => -1000000000 ≤ i ∧ i ≤ 1000000000
  | _ + 1, .str x => okS 12 x
  | n + 1, .list xs => xs.length ≤ 8 ∧ ∀ x ∈ xs, Gd b n x
  | n + 1, .dict kvs => kvs.length ≤ 8 ∧ (∀ p ∈ kvs, p.1 = .str (keyS p.1) ∧ okS 8 (keyS p.1) ∧ Gd b n p.2) ∧ (kvs.map fun p => keyS p.1).Nodup ∧ (n = 0 → kvs = [])
  | _ + 1, .none => False
  | _ + 1, .tuple _ => False
variable {b : Bool}
theorem gd0 {d : PyData} (h : Gd b 0 d) : b = true ∧ d = .int 0 := by
  cases d with
  | int i => exact ⟨h.1, by rw [h.2]⟩
  | none => exact h.elim
  | bool _ => exact h.elim
  | str _ => exact h.elim
  | list _ => exact h.elim
  | tuple _ => exact h.elim
  | dict _ => exact h.elim
theorem Gd.up : ∀ {n : Nat} {d : PyData}, Gd b n d → Gd b (n + 1) d
  | 0, d, h => by
    obtain ⟨_, rfl⟩ := gd0 h
    exact ⟨by decide, by decide⟩
  | _ + 1, .bool _, h => h
  | _ + 1, .int i, h => h
  | _ + 1, .str x, h => h
  | n + 1, .list xs, h => ⟨h.1, fun x m => (h.2 x m).up⟩
  | n + 1, .dict kvs, h => ⟨h.1, fun p m => ⟨(h.2.1 p m).1, (h.2.1 p m).2.1, (h.2.1 p m).2.2.up⟩, h.2.2.1, fun z => nomatch z⟩
  | _ + 1, .none, h => h.elim
  | _ + 1, .tuple _, h => h.elim
theorem Gd.wide : ∀ {n : Nat} {d : PyData}, Gd false n d → Gd b n d
  | 0, _, h => by
    cases (gd0 h).1
  | _ + 1, .bool _, h => h
  | _ + 1, .int i, h => h
  | _ + 1, .str x, h => h
  | n + 1, .list xs, h => ⟨h.1, fun x m => (h.2 x m).wide⟩
  | n + 1, .dict kvs, h => ⟨h.1, fun p m => ⟨(h.2.1 p m).1, (h.2.1 p m).2.1, (h.2.1 p m).2.2.wide⟩, h.2.2⟩
  | _ + 1, .none, h => h.elim
  | _ + 1, .tuple _, h => h.elim
theorem Gd.le {n m : Nat} {d : PyData} (h : Gd b n d) (l : n ≤ m) : Gd b m d := by
  induction l with
  | refl => exact h
  | step _ ih => exact ih.up
/-! ## how long they are -/
theorem join_le (sep : Str) (B : Nat) : ∀ ts : List Str, (∀ t ∈ ts, t.length ≤ B) → (Str.join sep ts).length ≤ ts.length * (B + sep.length)
  | [], _ => by show (0 : Nat) ≤ _; omega
  | [x], h => by
    have := h x (by simp)
    show x.length ≤ 1 * (B + sep.length)
    omega
  | x :: y :: r, h => by
    have ih := join_le sep B (y :: r) fun t m => h t (List.mem_cons_of_mem _ m)
    have := h x (by simp)
    show (x ++ sep ++ Str.join sep (y :: r)).length ≤ _
    rw [strLen_append, strLen_append]
    simp only [List.length_cons] at ih ⊢
    rw [Nat.succ_mul]
    omega
def bnd : Nat → Nat
  | 0 => 1
  | 1 => 122
  | n + 2 => 690 + 8 * bnd (n + 1)
theorem bnd_ge : ∀ n : Nat, 122 ≤ bnd (n + 1)
  | 0 => Nat.le_refl _
  | n + 1 => by show 122 ≤ 690 + 8 * bnd (n + 1); omega
theorem bnd_le {n : Nat} (h : n ≤ 6) : bnd n ≤ 7300000 := by
  match n, h with
  | 0, _ => decide
  | 1, _ => decide
  | 2, _ => decide
  | 3, _ => decide
  | 4, _ => decide
  | 5, _ => decide
  | 6, _ => decide
theorem all0 : ∀ {xs : List PyData}, (∀ x ∈ xs, Gd b 0 x) → xs = List.replicate xs.length (.int 0)
  | [], _ => rfl
  | x :: r, h => by
    obtain ⟨_, e⟩ := gd0 (h x (by simp))
    have ih := all0 (xs := r) fun y m => h y (by simp [m])
    rw [List.length_cons, List.replicate_succ, ← ih, e]
theorem int_len {i : Int} (h0 : -1000000000 ≤ i) (h1 : i ≤ 1000000000) : (Str.ofString (toString i)).length ≤ 11 := by
  have e : (10 : Nat) ^ 10 = 10000000000 := by decide
  have := int_text_length_le10 (a := i) (k := 10) (by decide) (by rw [e]; omega)
  rw [PySem.ofString_length]
  exact this
theorem quo_len (x : Str) : (quo x).length = x.length + 2 := by
  unfold quo; rw [strLen_append, strLen_append]
  show 1 + x.length + 1 = x.length + 2
  omega
theorem sortS_nil : sortS [] = [] := by simp [sortS]
theorem doc_len : ∀ {n : Nat} {d : PyData}, Gd b n d → (doc d).length ≤ bnd n
  | 0, _, h => by
    obtain ⟨_, rfl⟩ := gd0 h
    simp only [doc]
    decide +kernel
  | n + 1, .bool b, _ => by
    have := bnd_ge n
    cases b
    · show 5 ≤ _; omega
    · show 4 ≤ _; omega
  | n + 1, .int i, h => by
    have := bnd_ge n
    have := int_len h.1 h.2
    simp only [doc]; omega
  | n + 1, .str x, h => by
    have := bnd_ge n
    have := h.1
    simp only [doc]; rw [quo_len]; omega
  | 1, .list xs, h => by
    have z := join_le "," 1 (docAll xs) fun t m => by
      obtain ⟨x, hx, e⟩ := docAll_mem xs t m
      obtain ⟨_, ex⟩ := gd0 (h.2 x hx)
      rw [e, ex]
      simp only [doc]
      decide +kernel
    rw [docAll_len] at z
    have e1 : (Str.ofString ",").length = 1 := rfl
    rw [e1] at z
    have := h.1
    simp only [doc]
    rw [strLen_append, strLen_append]
    show 1 + _ + 1 ≤ 122
    omega
  | n + 2, .list xs, h => by
    have z := join_le "," (bnd (n + 1)) (docAll xs) fun t m => by
      obtain ⟨x, hx, e⟩ := docAll_mem xs t m
      rw [e]
      exact doc_len (h.2 x hx)
    rw [docAll_len] at z
    have e1 : (Str.ofString ",").length = 1 := rfl
    rw [e1] at z
    have z2 : xs.length * (bnd (n + 1) + 1) ≤ 8 * (bnd (n + 1) + 1) := Nat.mul_le_mul_right _ h.1
    simp only [doc]
    rw [strLen_append, strLen_append]
    show 1 + _ + 1 ≤ 690 + 8 * bnd (n + 1)
    omega
  | 1, .dict kvs, h => by
    cases h.2.2.2 rfl
    simp only [doc, List.map_nil, sortS_nil]
    show 2 ≤ 122
    decide
  | n + 2, .dict kvs, h => by
    have z := join_le "," (bnd (n + 1) + 11) ((sortS (kvs.map fun p => keyS p.1)).map (memS (docKv kvs))) fun t m => by
      obtain ⟨k, hk, rfl⟩ := List.mem_map.mp m
      have hk' := (sortS_perm _).mem_iff.mp hk
      obtain ⟨d, hd, p, hp, ep⟩ := getD_mem kvs k hk'
      obtain ⟨q, hq, eq⟩ := List.mem_map.mp hk'
      have hl := (h.2.1 q hq).2.1.1
      rw [eq] at hl
      have hx := doc_len (h.2.1 p hp).2.2
      rw [ep] at hx
      unfold memS
      rw [strLen_append, strLen_append, quo_len, lookS_get kvs k d hd]
      have e1 : (Str.ofString ":").length = 1 := rfl
      rw [e1]
      omega
    rw [List.length_map, (sortS_perm _).length_eq, List.length_map] at z
    have e1 : (Str.ofString ",").length = 1 := rfl
    rw [e1] at z
    have z2 : kvs.length * (bnd (n + 1) + 11 + 1) ≤ 8 * (bnd (n + 1) + 11 + 1) := Nat.mul_le_mul_right _ h.1
    simp only [doc]
    rw [strLen_append, strLen_append]
    show 1 + _ + 1 ≤ 690 + 8 * bnd (n + 1)
    omega
  | _ + 1, .none, h => h.elim
  | _ + 1, .tuple _, h => h.elim
/-! ## how long their reprs are -/
theorem rep_len {m : Nat} {x : Str} (h : okS m x) : (reprText x).length ≤ 10 * m + 2 := by
  have := PySem.StrLaws.reprText_len x fun c hc => Nat.lt_of_lt_of_le (h.2 c hc) (by decide)
  have := h.1
  omega
theorem lsum_le (B : Nat) : ∀ ts : List Str, (∀ t ∈ ts, t.length ≤ B) → (ts.map (·.length)).sum ≤ ts.length * B
  | [], _ => by simp
  | x :: r, h => by
    have ih := lsum_le B r fun t m => h t (List.mem_cons_of_mem _ m)
    have := h x (by simp)
    simp only [List.map_cons, List.sum_cons, List.length_cons, Nat.succ_mul]
    omega
theorem shownAll_mem : ∀ (xs : List PyData) (t : Str), t ∈ PyData.shownAll xs → ∃ x ∈ xs, t = x.shown
  | [], _, h => by simp [PyData.shownAll] at h
  | y :: r, t, h => by
    simp only [PyData.shownAll, List.mem_cons] at h
    rcases h with rfl | h
    · exact ⟨y, by simp, rfl⟩
    · obtain ⟨x, hx, e⟩ := shownAll_mem r t h
      exact ⟨x, by simp [hx], e⟩
theorem shownAll_len : ∀ xs : List PyData, (PyData.shownAll xs).length = xs.length
  | [] => by simp [PyData.shownAll]
  | x :: r => by simp [PyData.shownAll, shownAll_len r]
theorem shownKv_mem : ∀ (xs : List (PyData × PyData)) (t : Str), t ∈ PyData.shownKv xs → ∃ p ∈ xs, t = p.1.shown ++ ": " ++ p.2.shown
  | [], _, h => by simp [PyData.shownKv] at h
  | (a, b) :: r, t, h => by
    simp only [PyData.shownKv, List.mem_cons] at h
    rcases h with rfl | h
    · exact ⟨(a, b), by simp, rfl⟩
    · obtain ⟨x, hx, e⟩ := shownKv_mem r t h
      exact ⟨x, by simp [hx], e⟩
theorem shownKv_len : ∀ xs : List (PyData × PyData), (PyData.shownKv xs).length = xs.length
  | [] => by simp [PyData.shownKv]
  | (a, b) :: r => by simp [PyData.shownKv, shownKv_len r]
theorem shown_len : ∀ {n : Nat} {d : PyData}, Gd b n d → d.shown.length ≤ bnd n
  | 0, _, h => by
    obtain ⟨_, rfl⟩ := gd0 h
    simp only [PyData.shown]
    decide +kernel
  | n + 1, .bool b, _ => by
    have := bnd_ge n
    cases b
    · simp only [PyData.shown]; show 5 ≤ _; omega
    · simp only [PyData.shown]; show 4 ≤ _; omega
  | n + 1, .int i, h => by
    have := bnd_ge n
    have := int_len h.1 h.2
    simp only [PyData.shown]; omega
  | n + 1, .str x, h => by
    have := bnd_ge n
    have := rep_len h
    simp only [PyData.shown]; omega
  | 1, .list xs, h => by
    have z := lsum_le 1 (PyData.shownAll xs) fun t m => by
      obtain ⟨x, hx, e⟩ := shownAll_mem xs t m
      obtain ⟨_, ex⟩ := gd0 (h.2 x hx)
      rw [e, ex]
      simp only [PyData.shown]
      decide +kernel
    have z1 := textFrom_len_le (PyData.shownAll xs) 0 "["
    rw [shownAll_len] at z z1
    have e1 : (Str.ofString "[").length = 1 := rfl
    rw [e1] at z1
    have := h.1
    simp only [PyData.shown]
    unfold listText
    rw [strLen_append]
    show _ + 1 ≤ 122
    omega
  | n + 2, .list xs, h => by
    have z := lsum_le (bnd (n + 1)) (PyData.shownAll xs) fun t m => by
      obtain ⟨x, hx, e⟩ := shownAll_mem xs t m
      rw [e]
      exact shown_len (h.2 x hx)
    have z1 := textFrom_len_le (PyData.shownAll xs) 0 "["
    rw [shownAll_len] at z z1
    have z2 : xs.length * bnd (n + 1) ≤ 8 * bnd (n + 1) := Nat.mul_le_mul_right _ h.1
    have e1 : (Str.ofString "[").length = 1 := rfl
    rw [e1] at z1
    have := h.1
    simp only [PyData.shown]
    unfold listText
    rw [strLen_append]
    show _ + 1 ≤ 690 + 8 * bnd (n + 1)
    omega
  | 1, .dict kvs, h => by
    cases h.2.2.2 rfl
    simp only [PyData.shown, PyData.shownKv]
    show 2 ≤ 122
    decide
  | n + 2, .dict kvs, h => by
    have z := join_le ", " (bnd (n + 1) + 84) (PyData.shownKv kvs) fun t m => by
      obtain ⟨p, hp, e⟩ := shownKv_mem kvs t m
      obtain ⟨g1, g2, g3⟩ := h.2.1 p hp
      have hx := shown_len g3
      have hk := rep_len g2
      rw [e, strLen_append, strLen_append, g1]
      simp only [PyData.shown]
      have e1 : (Str.ofString ": ").length = 2 := rfl
      rw [e1]
      omega
    rw [shownKv_len] at z
    have e1 : (Str.ofString ", ").length = 2 := rfl
    rw [e1] at z
    have z2 : kvs.length * (bnd (n + 1) + 84 + 2) ≤ 8 * (bnd (n + 1) + 84 + 2) := Nat.mul_le_mul_right _ h.1
    simp only [PyData.shown]
    unfold dictText
    rw [strLen_append, strLen_append]
    show 1 + _ + 1 ≤ 690 + 8 * bnd (n + 1)
    omega
  | _ + 1, .none, h => h.elim
  | _ + 1, .tuple _, h => h.elim
theorem all_show : ∀ xs : List PyData, (∀ x ∈ xs, x.showable = true) → PyData.showableAll xs = true
  | [], _ => by simp [PyData.showableAll]
  | x :: r, h => by simp [PyData.showableAll, h x (by simp), all_show r fun y m => h y (by simp [m])]
theorem kv_show : ∀ xs : List (PyData × PyData), (∀ p ∈ xs, p.1.showable = true ∧ p.2.showable = true) → PyData.showableKv xs = true
  | [], _ => by simp [PyData.showableKv]
  | (a, b) :: r, h => by
    have := h (a, b) (by simp)
    simp [PyData.showableKv, this.1, this.2, kv_show r fun y m => h y (by simp [m])]
theorem Gd.show : ∀ {n : Nat} {d : PyData}, Gd b n d → d.showable = true
  | 0, _, h => by
    obtain ⟨_, rfl⟩ := gd0 h
    decide +kernel
  | n + 1, .bool b, _ => by simp [PyData.showable]
  | n + 1, .int i, h => by
    have : i.natAbs.log2 < 1920 := by
      have h1 : i.natAbs < 2 ^ 1920 := Nat.lt_of_le_of_lt (show i.natAbs ≤ 1000000000 by have := h.1; have := h.2; omega) (by decide)
      exact PySem.Flt.log2_lt_of (by decide) h1
    simpa [PyData.showable] using this
  | n + 1, .str x, h => by simp [PyData.showable]
  | n + 1, .list xs, h => by
    simp only [PyData.showable]
    exact all_show xs fun x m => (h.2 x m).show
  | n + 1, .dict kvs, h => by
    simp only [PyData.showable]
    refine kv_show kvs fun p m => ?_
    obtain ⟨g1, _, g3⟩ := h.2.1 p m
    exact ⟨by rw [g1]; simp [PyData.showable], g3.show⟩
  | _ + 1, .none, h => h.elim
  | _ + 1, .tuple _, h => h.elim
theorem depthAll_le {n : Nat} : ∀ xs : List PyData, (∀ x ∈ xs, x.depth ≤ n) → PyData.depthAll xs ≤ n
  | [], _ => by simp [PyData.depthAll]
  | x :: r, h => by
    have := h x (by simp)
    have := depthAll_le r fun y m => h y (by simp [m])
    simp only [PyData.depthAll]; omega
theorem depthKv_le {n : Nat} : ∀ xs : List (PyData × PyData), (∀ p ∈ xs, p.1.depth ≤ n ∧ p.2.depth ≤ n) → PyData.depthKv xs ≤ n
  | [], _ => by simp [PyData.depthKv]
  | (a, b) :: r, h => by
    obtain ⟨g1, g2⟩ := h (a, b) (by simp)
    simp only at g1 g2
    have := depthKv_le r fun y m => h y (by simp [m])
    simp only [PyData.depthKv]; omega
theorem Gd.depth : ∀ {n : Nat} {d : PyData}, Gd b n d → d.depth ≤ n
  | 0, _, h => by
    obtain ⟨_, rfl⟩ := gd0 h
    simp [PyData.depth]
  | n + 1, .bool b, _ => by simp [PyData.depth]
  | n + 1, .int i, h => by simp [PyData.depth]
  | n + 1, .str x, h => by simp [PyData.depth]
  | n + 1, .list xs, h => by
    have := depthAll_le xs fun x m => (h.2 x m).depth
    simp only [PyData.depth]; omega
  | n + 1, .dict kvs, h => by
    have := depthKv_le (n := n) kvs fun p m => by
      obtain ⟨g1, _, g3⟩ := h.2.1 p m
      exact ⟨by rw [g1]; simp [PyData.depth], g3.depth⟩
    simp only [PyData.depth]; omega
  | _ + 1, .none, h => h.elim
  | _ + 1, .tuple _, h => h.elim
end Sk

/-! isinstance of data. -/
namespace Sk
open PySem PySem.Spec PyProof.Rows L2 Evl
theorem kbb : kitB "bool" "bool" = some true := by decide +kernel
theorem kbi : kitB "bool" "int" = some true := by decide +kernel
theorem kbs : kitB "bool" "str" = some false := by decide +kernel
theorem kbl : kitB "bool" "list" = some false := by decide +kernel
theorem kbd : kitB "bool" "dict" = some false := by decide +kernel
theorem kbt : kitB "bool" "tuple" = some false := by decide +kernel
theorem kib : kitB "int" "bool" = some false := by decide +kernel
theorem kii : kitB "int" "int" = some true := by decide +kernel
theorem kis : kitB "int" "str" = some false := by decide +kernel
theorem kil : kitB "int" "list" = some false := by decide +kernel
theorem kid : kitB "int" "dict" = some false := by decide +kernel
theorem kit : kitB "int" "tuple" = some false := by decide +kernel
theorem ksb : kitB "str" "bool" = some false := by decide +kernel
theorem ksi : kitB "str" "int" = some false := by decide +kernel
theorem kss : kitB "str" "str" = some true := by decide +kernel
theorem ksl : kitB "str" "list" = some false := by decide +kernel
theorem ksd : kitB "str" "dict" = some false := by decide +kernel
theorem kst : kitB "str" "tuple" = some false := by decide +kernel
theorem klb : kitB "list" "bool" = some false := by decide +kernel
theorem kli : kitB "list" "int" = some false := by decide +kernel
theorem kls : kitB "list" "str" = some false := by decide +kernel
theorem kll : kitB "list" "list" = some true := by decide +kernel
theorem kld : kitB "list" "dict" = some false := by decide +kernel
theorem klt : kitB "list" "tuple" = some false := by decide +kernel
theorem kdb : kitB "dict" "bool" = some false := by decide +kernel
theorem kdi : kitB "dict" "int" = some false := by decide +kernel
theorem kds : kitB "dict" "str" = some false := by decide +kernel
theorem kdl : kitB "dict" "list" = some false := by decide +kernel
theorem kdd : kitB "dict" "dict" = some true := by decide +kernel
theorem kdt : kitB "dict" "tuple" = some false := by decide +kernel
theorem ktb : kitB "tuple" "bool" = some false := by decide +kernel
theorem kti : kitB "tuple" "int" = some false := by decide +kernel
theorem kts : kitB "tuple" "str" = some false := by decide +kernel
theorem ktl : kitB "tuple" "list" = some false := by decide +kernel
theorem ktd : kitB "tuple" "dict" = some false := by decide +kernel
theorem ktt : kitB "tuple" "tuple" = some true := by decide +kernel
def tyD : PyData → String
  | .none => "NoneType"
  | .bool _ => "bool"
  | .int _ => "int"
  | .str _ => "str"
  | .list _ => "list"
  | .tuple _ => "tuple"
  | .dict _ => "dict"
theorem Dq.ty {K : PySem.W.Frag} {H : Hp} : ∀ {v : V} {d : PyData}, Dq H v d → TyX K H v (.type (tyD d))
  | _, _, .non => .base .non
  | _, _, .bl b => .base (.bl b)
  | _, _, .int i => .base (.int i)
  | _, _, .str x => .base (.str x)
  | _, _, .lst e _ => .base (.lst e)
  | _, _, .tup e _ => .base (.tup e)
  | _, _, .dct e _ => .base (.dK e)
theorem call_isD {X : Cx} : CallR X (.builtin "isinstance") (fun xs H Q => ∃ x T d b, xs = [x, .ty T] ∧ Dq H x d ∧ kitB (tyD d) T = some b ∧ Q (.bl b) H) := by
  intro pins s σ H xs us Q I r h
  obtain ⟨x, T, d, b, rfl, hd, hk, q⟩ := h
  exact call_isi pins s σ H _ us Q I r ⟨x, .ty T, _, _, b, rfl, .ty T, hd.ty, kit_ty hk, q⟩
theorem tyes {σ : L2.St} {H : Hp} {A B : Hp → Prop} (h : A H) : tYes σ H fun b H3 => if b = true then A H3 else B H3 := by
  show (if true = true then A H else B H)
  rw [if_pos rfl]
  exact h
/-- a document read off -/
theorem Dq.lst_inv {H : Hp} {v : V} {xs : List PyData} (h : Dq H v (.list xs)) : ∃ a vs, v = .ref a ∧ H a = some (.lst vs) ∧ DqAll H vs xs := by
  cases h with
  | lst e r => exact ⟨_, _, rfl, e, r⟩
theorem Dq.dct_inv {H : Hp} {v : V} {xs : List (PyData × PyData)} (h : Dq H v (.dict xs)) : ∃ a vs, v = .ref a ∧ H a = some (.dK vs) ∧ DqKv H vs xs := by
  cases h with
  | dct e r => exact ⟨_, _, rfl, e, r⟩
theorem take_snoc {α : Type} {l : List α} {i : Nat} {x : α} (h : l[i]? = some x) : l.take (i + 1) = l.take i ++ [x] := by
  rw [List.take_add_one, h]; rfl
end Sk

/-! xs[::k]; texts of one sign joined; a dict with one more name. -/
namespace Sk
open PySem PySem.Spec PyProof.Rows L2 Evl
theorem vals_pick {xs : List V} {us : List Value} (r : Vals xs us) : ∀ L : List Nat, Vals (L.filterMap (xs[·]?)) (L.filterMap (us[·]?))
  | [] => .nil
  | i :: L => by
    have ih := vals_pick r L
    simp only [List.filterMap_cons]
    cases h : xs[i]? with
    | none => rw [r.none_of h]; exact ih
    | some x =>
      obtain ⟨u, e, ru⟩ := r.get h
      rw [e]
      exact .cons ru ih
theorem pick_mem {xs : List V} (L : List Nat) : ∀ z ∈ L.filterMap (xs[·]?), z ∈ xs := by
  intro z h
  obtain ⟨i, _, e⟩ := List.mem_filterMap.mp h
  exact List.mem_of_getElem? e
def tStep (K : PySem.W.Frag) (te tk : TE) : TE := fun σ H Q => te σ H fun x H1 => tk σ H1 fun y H2 => ∃ a xs k, x = .ref a ∧ y = .int k ∧ k ≠ 0 ∧ SqL K H2 a xs ∧
  ∀ p zs, H2 p = none → (∀ z ∈ zs, z ∈ xs) → zs.length ≤ xs.length → Q (.ref p) (upd H2 p (.lst zs))
theorem pe_step {X : Cx} {e k : Expr} {te tk : TE} {p3 pos : Pos} (he : PE X e te) (hk : PE X k tk) : PE X (.Subscript e (.Slice none none (some k) p3) pos) (tStep X.K te tk) := by
  refine ⟨fun pins s σ H Q I h => Subscript_ (thn (he.run pins s σ H _ I h) fun v s1 ⟨x, H1, I1, r1, q1⟩ => ?_)⟩
  refine wpAny_Slice (thn (po_none.run pins s1 σ H1 (fun o H2 => o = none ∧ H2 = H1) I1 ⟨rfl, rfl⟩) fun vl s2 ⟨l, H2, I2, pl, el, e2⟩ => ?_)
  cases el
  cases e2
  refine thn (po_none.run pins s2 σ H1 (fun o H2 => o = none ∧ H2 = H1) I2 ⟨rfl, rfl⟩) fun vu s3 ⟨l, H2, I3, pu, el, e2⟩ => ?_
  cases el
  cases e2
  rw [evalPart_some]
  refine thn (hk.run pins s3 σ H1 _ I3 q1) fun vk s4 ⟨y, H4, I4, r4, a, xs, n, ex, ey, hn, hs, q⟩ => ?_
  subst ex
  subst ey
  cases r1
  obtain ⟨t, rfl⟩ := r4
  let s5 : Shared := { s4 with heap := s4.heap.push { cls := .type "slice", data := .fields #[vl, vu, .int n t] } }
  have I5 : Inv X pins σ H4 s5 := I4.kept (t' := s4.toks) fun b ob z => Heap.get?_push_of_some _ z
  obtain ⟨its, r, ht, hz⟩ := I5.list hs
  have hlen := r.length
  show wpAny (model X.prog X.w) X.A (subscriptTail e (.Slice none none (some k) p3) (.ref a) (.ref s4.heap.objs.size)) (EP X pins σ Q) X.xe s5
  refine tail_any (ops := [.ref a, .ref s4.heap.objs.size]) ht.isList.typeIs PySem.slot_list_getitem.lookup ?_ (by with_unfolding_all rfl)
  refine wpAny_getItem_list_slice ht.isList (.new _ vl vu _) pl pu (.int n t) (fun z => hn (Option.some.inj z)) ?_ (by rw [List.size_toArray]; omega)
  have hsz := slicePick_size_le its.toArray none none (some n)
  rw [List.size_toArray] at hsz
  generalize hL : sliceRange (sliceBounds none none (some n) its.toArray.size).1 (sliceBounds none none (some n) its.toArray.size).2.1 (sliceBounds none none (some n) its.toArray.size).2.2 = L
  have e1 : slicePick its.toArray none none (some n) = (L.filterMap (its[·]?)).toArray := by
    unfold slicePick
    rw [hL]
    simp
  rw [e1, List.size_toArray] at hsz
  rw [e1]
  have hsz2 : (L.filterMap (its[·]?)).length ≤ its.length := hsz
  have rz := vals_pick r L
  have hl2 := rz.length
  refine ⟨.ref _, _, I5.laid (t' := s4.toks) (o := .lst (L.filterMap (xs[·]?))) (fun b ob z => Heap.get?_push_of_some _ z) (Nat.le_refl _) ?_, rfl, q _ _ (I5.hok.fresh (Nat.le_refl _)) (pick_mem L) (by rw [hl2, hlen]; exact hsz2)⟩
  exact ⟨by rw [hl2]; exact Nat.le_trans hsz2 (by rw [← hlen]; exact hz), _, 0, rz, Heap.get?_push_size _ rfl⟩
/-! ## one sign each, joined -/
def one (c : Nat) : Str := ⟨#[c]⟩
theorem tl_app (a b : Str) : (a ++ b).cps.toList = a.cps.toList ++ b.cps.toList := by
  show (a.cps ++ b.cps).toList = _
  simp
theorem join_one : ∀ cs : List Nat, (Str.join Str.empty (cs.map one)).cps.toList = cs
  | [] => rfl
  | [c] => rfl
  | c :: d :: r => by
    have ih := join_one (d :: r)
    show ((one c ++ Str.empty) ++ Str.join Str.empty ((d :: r).map one)).cps.toList = c :: d :: r
    rw [tl_app, tl_app, ih]
    rfl
theorem sum_one : ∀ cs : List Nat, ((cs.map one).map (·.length)).sum = cs.length
  | [] => rfl
  | c :: r => by
    have ih := sum_one r
    simp only [List.map_cons, List.sum_cons, List.length_cons]
    rw [ih]
    show 1 + r.length = r.length + 1
    omega
/-! ## a name put into a record -/
def putD (ds : List (PyData × PyData)) (k : Str) (d : PyData) : List (PyData × PyData) :=
  if (ds.any fun p => decide (keyS p.1 = k)) = true then ds.map (fun p => if keyS p.1 = k then (p.1, d) else p) else ds ++ [(.str k, d)]
theorem any_keys {H : Hp} {k : Str} : ∀ {kvs ds}, DqKv H kvs ds → (kvs.any fun kv => decide (kv.1 = (.inr k : Key))) = ds.any fun p => decide (keyS p.1 = k)
  | _, _, .nil => rfl
  | _, _, .cons (k := k') x r => by
    simp only [List.any_cons, any_keys r, keyS]
    congr 1
    by_cases e : k' = k
    · simp [e]
    · have : ¬ (Sum.inr k' : Key) = Sum.inr k := fun z => e (Sum.inr.inj z)
      simp [e]
theorem map_put {H : Hp} {k : Str} {v : V} {d : PyData} (h : Dq H v d) : ∀ {kvs : List (Key × V)} {ds : List (PyData × PyData)}, DqKv H kvs ds → DqKv H (kvs.map fun kv => if kv.1 = (.inr k : Key) then (kv.1, v) else kv) (ds.map fun p => if keyS p.1 = k then (p.1, d) else p)
  | _, _, .nil => .nil
  | _, _, .cons (k := k') x r => by
    have ih := map_put (k := k) h r
    by_cases e : k' = k
    · subst e
      simp only [List.map_cons]
      rw [if_pos trivial, if_pos (show keyS (PyData.str k') = k' from rfl)]
      exact .cons h ih
    · have e2 : ¬ (Sum.inr k' : Key) = Sum.inr k := fun z => e (Sum.inr.inj z)
      simp only [List.map_cons]
      rw [if_neg e2, if_neg (show ¬ keyS (PyData.str k') = k from e)]
      exact .cons x ih
theorem snoc_put {H : Hp} {k : Str} {v : V} {d : PyData} (h : Dq H v d) : ∀ {kvs ds}, DqKv H kvs ds → DqKv H (kvs ++ [(.inr k, v)]) (ds ++ [(.str k, d)])
  | _, _, .nil => .cons h .nil
  | _, _, .cons x r => .cons x (snoc_put h r)
theorem DqKv.put {H : Hp} {k : Str} {v : V} {d : PyData} {kvs ds} (r : DqKv H kvs ds) (h : Dq H v d) : DqKv H (putK kvs (.inr k) v) (putD ds k d) := by
  unfold putK putD
  rw [any_keys r]
  split
  · exact map_put h r
  · exact snoc_put h r
theorem putD_len (ds : List (PyData × PyData)) (k : Str) (d : PyData) : (putD ds k d).length ≤ ds.length + 1 := by
  unfold putD
  split <;> simp
theorem putD_keys (ds : List (PyData × PyData)) (k : Str) (d : PyData) : (putD ds k d).map (fun p => keyS p.1) = if k ∈ ds.map (fun p => keyS p.1) then ds.map (fun p => keyS p.1) else ds.map (fun p => keyS p.1) ++ [k] := by
  unfold putD
  by_cases h : k ∈ ds.map fun p => keyS p.1
  · have h' : (ds.any fun p => decide (keyS p.1 = k)) = true := by
      obtain ⟨p, hp, e⟩ := List.mem_map.mp h
      exact List.any_eq_true.mpr ⟨p, hp, by simp [e]⟩
    rw [if_pos h, if_pos h', List.map_map]
    refine List.map_congr_left fun p hp => ?_
    simp only [Function.comp]
    split <;> rfl
  · have h' : ¬ (ds.any fun p => decide (keyS p.1 = k)) = true := fun z => by
      obtain ⟨p, hp, e⟩ := List.any_eq_true.mp z
      exact h (List.mem_map.mpr ⟨p, hp, by simpa using e⟩)
    rw [if_neg h, if_neg h', List.map_append]
    rfl
/-- the parts of a record: whatever it has -/
def GdK (b : Bool) (n m : Nat) (ds : List (PyData × PyData)) : Prop := ds.length ≤ m ∧ (∀ p ∈ ds, p.1 = .str (keyS p.1) ∧ okS 8 (keyS p.1) ∧ Gd b n p.2) ∧ (ds.map fun p => keyS p.1).Nodup
theorem GdK.nil {b : Bool} {n : Nat} : GdK b n 0 [] := ⟨Nat.le_refl _, (fun _ h => nomatch h), by simp⟩
theorem GdK.put {b : Bool} {n m : Nat} {ds : List (PyData × PyData)} (g : GdK b n m ds) {k : Str} {d : PyData} (hk : okS 8 k) (hd : Gd b n d) : GdK b n (m + 1) (putD ds k d) := by
  refine ⟨?_, ?_, ?_⟩
  · have := putD_len ds k d
    have := g.1
    omega
  · intro p hp
    unfold putD at hp
    split at hp
    · obtain ⟨q, hq, rfl⟩ := List.mem_map.mp hp
      have z := g.2.1 q hq
      split
      · exact ⟨z.1, z.2.1, hd⟩
      · exact z
    · rcases List.mem_append.mp hp with hp | hp
      · exact g.2.1 p hp
      · cases List.mem_singleton.mp hp
        exact ⟨rfl, hk, hd⟩
  · rw [putD_keys]
    split
    · exact g.2.2
    · rename_i h
      exact List.nodup_append.mpr ⟨g.2.2, by simp, fun a ha b hb e => by
        cases List.mem_singleton.mp hb
        exact h (e ▸ ha)⟩
end Sk

/-! What is new between two heaps. -/
namespace Sk
open PySem PySem.Spec PyProof.Rows L2 Evl
def Nw (G H : Hp) : Hp := fun a => if G a = none then H a else none
theorem nw_some {G H : Hp} {a : Addr} {o : HO} (h : Nw G H a = some o) : G a = none ∧ H a = some o := by
  unfold Nw at h
  split at h
  · exact ⟨by assumption, h⟩
  · cases h
theorem nw_of {G H : Hp} {a : Addr} {o : HO} (n : G a = none) (h : H a = some o) : Nw G H a = some o := by
  unfold Nw; rw [if_pos n]; exact h
theorem nw_le {G H : Hp} : Ex (Nw G H) H := fun _ _ h => (nw_some h).2
theorem nw_ne {G H : Hp} {st a : Addr} {o : HO} (s : Strm st G) (h : Nw G H a = some o) : a ≠ st := by
  obtain ⟨u, e⟩ := s.some
  intro z; subst z
  rw [(nw_some h).1] at e; cases e
theorem nw_hd {G H : Hp} {st : Addr} (s : Strm st G) : Ex (Nw G H) (Hd st H) := fun a o h => hd_of (nw_ne s h) (nw_some h).2
theorem nw_aft {G H H' : Hp} {st : Addr} (s : Strm st G) (a : Aft st H H') : Ex (Nw G H) (Nw G H') := fun b o h => nw_of (nw_some h).1 (a.at (nw_ne s h) (nw_some h).2)
theorem nw_back {G G' H : Hp} (d : ∀ a, G' a = none → G a = none) : Ex (Nw G' H) (Nw G H) := fun b o h => nw_of (d b (nw_some h).1) (nw_some h).2
theorem Aft.none {H H' : Hp} {st : Addr} (a : Aft st H H') {b : Addr} (h : H' b = none) : H b = none := by
  obtain ⟨u, e⟩ := a.sm.some
  have n : b ≠ st := by intro z; subst z; rw [h] at e; cases e
  cases q : H b with
  | none => rfl
  | some o => rw [a.at n q] at h; cases h
theorem nw_upd {G H : Hp} {b : Addr} {o u : HO} (h : G b = some u) : Nw G (upd H b o) = Nw G H := by
  funext a
  unfold Nw
  split
  · rename_i z
    exact upd_ne (by intro e; subst e; rw [h] at z; cases z)
  · rfl
theorem nw_new {G H : Hp} {b : Addr} {o : HO} (h : H b = none) : Ex (Nw G H) (Nw G (upd H b o)) := fun a u e => nw_of (nw_some e).1 (by rw [upd_ne (ne_of_none (nw_some e).2 h)]; exact (nw_some e).2)
theorem upd_none {H : Hp} {a b : Addr} {o : HO} (h : upd H b o a = none) : H a = none := by
  unfold upd at h
  split at h
  · cases h
  · exact h
end Sk

/-! A call by names alone. -/
namespace Sk
open PySem PySem.Spec PyProof.Rows L2 Evl
theorem pe_callK0 {X : Cx} {CX : CXT} {k : Nat} {f : Addr} {fd : FuncData} {ps ks : List Str} {sp : Sp} {E : XK} {x : Str} {p pos : Pos} {kws : List Keyword} {tk : TA} {g : List Value → List Value → List Value} {gV : List V → List V → List V} (F : FnOk X.prog X.w X.K X.mg X.base CX k f fd ps sp)
    (hr : Room k X.A) (hg : Gl X x) (hm : X.mg x = some (.ref f)) (hk : PySem.W.keepIn X.K (.ref f) = true) (hb : KBinds X.K fd ps ks g gV) (hx : Passes CX X E) (hkw : PK X kws tk) (hall : (backToKw pos (keywordEach kws X.env)).all (·.1.isSome) = true := by rfl)
    (hks : (backToKw pos (keywordEach kws X.env)).filterMap (·.1) = ks := by rfl) (hdb : (x == ("__debug__" : Str)) = false := by decide)
    (hpl : ((backTo pos (starEach [] X.env)).any (·.1) || (backToKw pos (keywordEach kws X.env)).any (·.1.isNone)) = false := by rfl) : PE X (.Call (.Name x p) [] kws pos) (tCallK sp gV E tNil tk) := by
  refine ⟨fun pins s σ H Q I h => wpAny_Call_Name_kw (ld_glob I hg hm (PySem.W.callWith_KW0 (h₀ := X.base) I.ok.mod.kin hk hall (thn (hkw.run pos pins s σ H _ I h) fun ws s2 ⟨zs, H2, I2, rz, q2⟩ => ⟨I2.kIn, ?_⟩) hpl) hdb)⟩
  rw [hks]
  exact run_fnk (us := []) (vs := []) F hr hb hx I2 .nil rz q2
def gNoPos {α : Type} (us ws : List α) : List α := if us.isEmpty = true then ws else []
theorem kb_of {K : PySem.W.Frag} {x qual : Str} {st : Stmt} {f : Addr} {fd : FuncData} {ps ks : List Str} (F : Fun K x qual st f fd) (h0 : ps ≠ [])
    (h : ∀ (kV doc pm : Value) (an : Option Addr) (cdv ct : Value) (ws : List Value), ws.length = ps.length → bindArgs (PySem.W.fnOf x qual (defArgs st) (defBody st) (defScope st) .none kV doc pm an cdv ct) ⟨[], ks.zip ws⟩ = pure (ps.zip ws)) : KBinds K fd ps ks gNoPos gNoPos := by
  obtain ⟨oc, od, kV, doc, pm, an, cdv, ct, osl, rfl, lk, hcd⟩ := F.ex
  refine ⟨fun s us ws _ hl => ?_, fun {vs us zs ws} r rz => ?_⟩
  · unfold gNoPos at hl ⊢
    cases us with
    | nil => exact .of_eq (h kV doc pm an cdv ct ws hl)
    | cons u us =>
      cases ps with
      | nil => exact absurd rfl h0
      | cons p ps => simp at hl
  · cases r with
    | nil => exact rz
    | cons _ _ => exact .nil
end Sk

/-! Sets of texts: set(xs), sorted(set), len(set). -/
namespace Sk
open PySem PySem.Spec PyProof.Rows L2 Evl
section
variable {P : Program} {w : World} {A : Around} {E : Value → Shared → Prop} {s : Shared} {a : Addr} {M : List Str}
set_option maxHeartbeats 3200000 in
end
end Sk

/-! The operators that an own class says: +, ~, len, ==, !=. -/
namespace Sk
open PySem PySem.Spec PyProof.Rows L2 Evl
section
variable {X : Cx} {pins : List (Addr × Obj)} {σ : L2.St} {H : Hp} {s : Shared} {CX : CXT} {n : Nat} {C g : Addr} {sp : Sp} {E : XK}
/-- an instance as the heap has it -/
theorem ins_at {a dx : Addr} {fs : List (Str × V)} (I : Inv X pins σ H s) (h : H a = some (.ins C dx fs)) : ∃ ox od, PySem.W.InstAt s.heap a ox C od := by
  obtain ⟨mA, O, _⟩ := ins_get I.hok h
  obtain ⟨od, J, _⟩ := O.look
  exact ⟨_, _, J⟩
/-- x op y, both of one class -/
def rBinI (C : Addr) (sp : Sp) (E : XK) : R2 := fun x y H Q => ∃ a b dx dy fs gs, x = .ref a ∧ y = .ref b ∧ H a = some (.ins C dx fs) ∧ H b = some (.ins C dy gs) ∧ sp [x, y] H Q E
theorem op_binI {op : Operator} (hc : PySem.W.selfFirst X.K C = true) (hs : PySem.W.findIn X.K (.ref C) (PySem.dunder op.info.2) = some (some (.ref g))) (hf : PySem.W.isFn X.K (.ref g) = true) (F : FnR X.prog X.w X.K X.mg X.base CX n g sp)
    (hr : Room n X.A) (hx : Passes CX X E) : OpR X (binaryOp op) (rBinI C sp E) := by
  intro pins s σ H x y v u Q I rx ry h
  obtain ⟨a, b, dx, dy, fs, gs, rfl, rfl, ha, hb, q⟩ := h
  cases (show v = Value.ref a from rx)
  cases (show u = Value.ref b from ry)
  obtain ⟨ox, od, J⟩ := ins_at I ha
  obtain ⟨oy, od', J'⟩ := ins_at I hb
  obtain ⟨m, hF⟩ := I.fr
  refine PySem.W.binop_K hF I.ok.mod.kin J J'.type hc hs hf ?_
  refine wpAny_mono (wpAny_call (run_fnR (us := [.ref a, .ref b]) (vs := [.ref a, .ref b]) F hr hx I (.cons rfl (.cons rfl .nil)) q)) (fun w s' z => ?_) fun _ _ x => x
  obtain ⟨z', H', I', rz, qz⟩ := z
  exact SlX.cmpback rz ⟨z', H', I', rz, qz⟩
/-- x == y (and the other comparisons), both of one class -/
theorem op_cmpI {op : CmpOp} (hop : ∀ a b, compareOp op a b = richCompare op a b) (hs : PySem.W.findIn X.K (.ref C) (cmpInfo op).2.1 = some (some (.ref g))) (hf : PySem.W.isFn X.K (.ref g) = true) (F : FnR X.prog X.w X.K X.mg X.base CX n g sp)
    (hr : Room n X.A) (hx : Passes CX X E) : OpR X (compareOp op) (rBinI C sp E) := by
  intro pins s σ H x y v u Q I rx ry h
  obtain ⟨a, b, dx, dy, fs, gs, rfl, rfl, ha, hb, q⟩ := h
  cases (show v = Value.ref a from rx)
  cases (show u = Value.ref b from ry)
  obtain ⟨ox, od, J⟩ := ins_at I ha
  obtain ⟨oy, od', J'⟩ := ins_at I hb
  obtain ⟨m, hF⟩ := I.fr
  rw [hop]
  refine PySem.W.cmp_K (op := op) (tb := .ref C) hr.units0 hF I.ok.mod.kin J J'.type (by simp [PySem.W.notFirst]) hs hf ?_
  refine wpAny_mono (wpAny_call (run_fnR (us := [.ref a, .ref b]) (vs := [.ref a, .ref b]) F hr hx I (.cons rfl (.cons rfl .nil)) q)) (fun w s' z => ?_) fun _ _ x => x
  obtain ⟨z', H', I', rz, qz⟩ := z
  exact SlX.cmpback rz ⟨z', H', I', rz, qz⟩
/-- ~x -/
def rUnI (C : Addr) (sp : Sp) (E : XK) : V → Hp → VK → Prop := fun x H Q => ∃ a dx fs, x = .ref a ∧ H a = some (.ins C dx fs) ∧ sp [x] H Q E
theorem un_invI (hs : PySem.W.findIn X.K (.ref C) "__invert__" = some (some (.ref g))) (hf : PySem.W.isFn X.K (.ref g) = true) (F : FnR X.prog X.w X.K X.mg X.base CX n g sp)
    (hr : Room n X.A) (hx : Passes CX X E) : UnR X (unaryOp .Invert) (rUnI C sp E) := by
  intro pins s σ H x v Q I rx h
  obtain ⟨a, dx, fs, rfl, ha, q⟩ := h
  cases (show v = Value.ref a from rx)
  obtain ⟨ox, od, J⟩ := ins_at I ha
  obtain ⟨m, hF⟩ := I.fr
  refine PySem.W.ksp_inv hF I.ok.mod.kin J hs hf ?_
  exact wpAny_call (run_fnR (us := [.ref a]) (vs := [.ref a]) F hr hx I (.cons rfl .nil) q)
/-- len(x) -/
theorem call_lenI (hs : PySem.W.findIn X.K (.ref C) "__len__" = some (some (.ref g))) (hf : PySem.W.isFn X.K (.ref g) = true) (F : FnR X.prog X.w X.K X.mg X.base CX n g sp)
    (hr : Room (n + 1) X.A) (hx : Passes CX X E) : CallR X (.builtin "len") (fun xs H Q => ∃ a dx fs, xs = [.ref a] ∧ H a = some (.ins C dx fs) ∧ sp [.ref a] H (fun z H' => ∃ k : Int, z = .int k ∧ 0 ≤ k ∧ k < 2 ^ 63 ∧ Q (.int k) H') E) := by
  intro pins s σ H xs us Q I r h
  obtain ⟨a, dx, fs, rfl, ha, q⟩ := h
  obtain ⟨u1, rfl, rx⟩ := vals1 r
  cases (show u1 = Value.ref a from rx)
  obtain ⟨ox, od, J⟩ := ins_at I ha
  obtain ⟨m, hF⟩ := I.fr
  refine PySem.W.len_K hF I.ok.mod.kin J hs hf ?_
  refine wpAny_mono (wpAny_call (SlX.run_at (us := [.ref a]) (ws := [.ref a]) F hr.in1 I.env0.in1 hx I (.cons rfl .nil) q)) (fun w s' z => ?_) fun _ _ x => x
  obtain ⟨z', H', I', rz, k, ez, h0, h1, qz⟩ := z
  subst ez
  obtain ⟨t, e⟩ := (show ∃ t, w = Value.int k t from rz)
  cases e
  exact ⟨⟨h0, h1⟩, .int k, H', I'.tok _, ⟨_, rfl⟩, qz⟩
end
section
variable {prog : Program} {w : World} {A : Around} {E : Value → Shared → Prop} {s : Shared} {K : PySem.W.Frag} {x C L f : Addr} {h₀ : Heap} {m : Str → Option Value} {ox : Obj} {od : Option Obj} {b : Value}
/-- object.__ne__ over an own __eq__ -/
theorem ne_call {Q : Value → Shared → Prop} (hu : A.in1.units < cLine) (X : K.In s.heap) (I : PySem.W.InstAt s.heap x ox C od) (hm : PySem.W.mroIn K C (.type "object") = some true) (hs : PySem.W.findIn K (.ref C) "__eq__" = some (some (.ref f))) (hf : PySem.W.isFn K (.ref f) = true)
    (h : wpAny (model prog w) A.in1 (call (.ref f) [.ref x, b]) (fun v s' => ∃ k, v = .bool k ∧ Q (.bool (!k)) s') E s) : wpAny (model prog w) A (call (.builtin "object.__ne__") [.ref x, b]) Q E s := by
  refine wpAny_call (codeAny_call_builtin F.cmp_object.ne.plain F.cmpEntry_ne (PySem.W.check_slot F.cmpKind_ne F.cmpSplit_ne (I.type.andThen (PySem.W.looks_mroIn X hm)) (F.cmpArgs_ne _ _) ?_))
  unfold Builtin.«object.__ne__»
  repeat (first
    | with_reducible refine wpAny_cRoomFor hu ?_
    | (refine wpAny_bind (m := callSpecialIfBound? (.ref x) (Str.ofString "__eq__") [b])
        (PySem.W.ifBound_K X I hs hf (wpAny_mono h (fun r s' hr => by
          obtain ⟨k, rfl, hq⟩ := hr
          repeat (first | exact hq | exact wpAny_pure hq | exact wpAny_truthy_bool hq | (refine wpAny_bind (m := truthy (.bool _)) (wpAny_truthy_bool ?_)) | wp_step)) fun _ _ e => e)))
    | wp_step)
theorem ifBound_ne {args : List Value} {Q : Option Value → Shared → Prop} (X : K.In s.heap) (I : PySem.W.InstAt s.heap x ox C od) (hs : PySem.W.findIn K (.ref C) "__ne__" = some (some (.builtin "object.__ne__")))
    (h : wpAny (model prog w) A (call (.builtin "object.__ne__") (.ref x :: args)) (fun v => Q (some v)) E s) : wpAny (model prog w) A (callSpecialIfBound? (.ref x) "__ne__" args) Q E s := by
  simp only [callSpecialIfBound?, bindSpecialIfBound?]
  refine wpAny_holding (wpAny_bind (wpAny_bind (wpAny_bind (I.type.here ((PySem.W.looks_findIn X hs).here ?_)))))
  refine wpAny_bind (wpAny_askSetting (wpAny_ite ?_))
  have fin : wpAny (model prog w) A (call (.builtin "object.__ne__") ([.ref x] ++ args) >>= fun v => pure (some v)) Q E s := wpAny_bind (wpAny_mono h (fun v s' h' => wpAny_pure h') fun _ _ h' => h')
  split
  · exact wpAny_bind (wpAny_of_eq (F.cmp_object.ne.bind _) (wpAny_pure (by exact fin)))
  · exact wpAny_tryCatch (wpAny_bind (wpAny_of_eq (F.cmp_object.ne.bind _) (wpAny_pure (by exact fin))))
theorem ne_K {tb : Value} {Q : Value → Shared → Prop} (hu : A.in1.units < cLine) (Fh : Fr h₀ L s.heap m) (X₀ : K.In h₀) (I : PySem.W.InstAt s.heap x ox C od) (hb : PySem.W.Looks (model prog w) s.heap (typeOf b) (.ref C))
    (hm : PySem.W.mroIn K C (.type "object") = some true) (hn : PySem.W.findIn K (.ref C) "__ne__" = some (some (.builtin "object.__ne__"))) (hs : PySem.W.findIn K (.ref C) "__eq__" = some (some (.ref f))) (hf : PySem.W.isFn K (.ref f) = true)
    (h : wpAny (model prog w) A.in1 (call (.ref f) [.ref x, b]) (fun v s' => ∃ k, v = .bool k ∧ Q (.bool (!k)) s') E s) : wpAny (model prog w) A (richCompare .NotEq (.ref x) b) Q E s := by
  have X := X₀.keeps Fh.keep
  have hu0 : A.units < cLine := by
    have : A.in1.units = A.units + 1 := rfl
    omega
  have one : wpAny (model prog w) A (tryCompare (.ref x) "__ne__" b) (fun r s' => ∃ v, r = some v ∧ Q v s') E s := by
    unfold tryCompare
    refine wpAny_bind (ifBound_ne X I hn (ne_call hu X I hm hs hf (wpAny_mono h (fun v s' hv => ?_) fun _ _ e => e)))
    obtain ⟨k, rfl, hq⟩ := hv
    exact ⟨k, rfl, wpAny_pure ⟨_, rfl, hq⟩⟩
  unfold richCompare
  simp only [oneThing_ref]
  refine wpAny_holding (wpAny_bind (wpAny_cRoomFor hu0 ?_))
  refine wpAny_bind (I.type.here (wpAny_bind (hb.here ?_)))
  rw [show (Value.ref C != Value.ref C) = false from by simp]
  simp only [Bool.false_eq_true, if_false]
  refine wpAny_bind (wpAny_pure ?_)
  simp only [Bool.false_eq_true, if_false]
  refine wpAny_bind (wpAny_mono one (fun r s' z => ?_) fun _ _ e => e)
  obtain ⟨v, rfl, hq⟩ := z
  exact wpAny_pure hq
end
section
variable {X : Cx} {pins : List (Addr × Obj)} {σ : L2.St} {H : Hp} {s : Shared} {CX : CXT} {n : Nat} {C g : Addr} {sp : Sp} {E : XK}
/-- x != y over an own __eq__ -/
def rNeI (C : Addr) (sp : Sp) (E : XK) : R2 := fun x y H Q => ∃ a b dx dy fs gs, x = .ref a ∧ y = .ref b ∧ H a = some (.ins C dx fs) ∧ H b = some (.ins C dy gs) ∧ sp [x, y] H (fun z H' => ∃ k, z = .bl k ∧ Q (.bl (!k)) H') E
theorem op_neI (hm : PySem.W.mroIn X.K C (.type "object") = some true) (hn : PySem.W.findIn X.K (.ref C) "__ne__" = some (some (.builtin "object.__ne__"))) (hs : PySem.W.findIn X.K (.ref C) "__eq__" = some (some (.ref g))) (hf : PySem.W.isFn X.K (.ref g) = true) (F : FnR X.prog X.w X.K X.mg X.base CX n g sp)
    (hr : Room (n + 1) X.A) (hx : Passes CX X E) : OpR X (compareOp .NotEq) (rNeI C sp E) := by
  intro pins s σ H x y v u Q I rx ry h
  obtain ⟨a, b, dx, dy, fs, gs, rfl, rfl, ha, hb, q⟩ := h
  cases (show v = Value.ref a from rx)
  cases (show u = Value.ref b from ry)
  obtain ⟨ox, od, J⟩ := ins_at I ha
  obtain ⟨oy, od', J'⟩ := ins_at I hb
  obtain ⟨m, hF⟩ := I.fr
  show wpAny (model X.prog X.w) X.A (richCompare .NotEq (.ref a) (.ref b)) (EP X pins σ Q) X.xe s
  refine ne_K (tb := .ref C) hr.in1.units0 hF I.ok.mod.kin J J'.type hm hn hs hf ?_
  refine wpAny_mono (wpAny_call (SlX.run_at (us := [.ref a, .ref b]) (ws := [.ref a, .ref b]) F hr.in1 I.env0.in1 hx I (.cons rfl (.cons rfl .nil)) q)) (fun w s' z => ?_) fun _ _ x => x
  obtain ⟨z', H', I', rz, k, ez, qz⟩ := z
  subst ez
  cases (show w = Value.bool k from rz)
  exact ⟨k, rfl, .bl (!k), H', I', rfl, qz⟩
end
end Sk

/-! Changes of texts: their sums. -/
namespace Sk
inductive Ed (α : Type) where
  | keep (c : α) | put (c : α) | drop (c : α) | swap (a b : α)
  deriving DecidableEq
namespace Ed
variable {α : Type} [DecidableEq α]
def ok : Ed α → Prop
  | swap a b => a ≠ b
  | _ => True
def isDrop : Ed α → Bool
  | drop _ => true
  | _ => false
def isPut : Ed α → Bool
  | put _ => true
  | _ => false
def inn : Ed α → List α
  | keep c => [c]
  | put _ => []
  | drop c => [c]
  | swap a _ => [a]
def out : Ed α → List α
  | keep c => [c]
  | put c => [c]
  | drop _ => []
  | swap _ b => [b]
def turn : Ed α → Ed α
  | keep c => keep c
  | put c => drop c
  | drop c => put c
  | swap a b => swap b a
def comp : Ed α → Ed α → List (Ed α)
  | keep _, s => [s]
  | f, keep _ => [f]
  | put _, drop _ => []
  | put _, put _ => []
  | put _, swap _ c => [put c]
  | drop a, drop _ => [drop a]
  | swap a _, drop _ => [drop a]
  | drop _, put _ => []
  | swap _ _, put _ => []
  | drop a, swap _ c => if a = c then [keep a] else [swap a c]
  | swap a _, swap _ c => if a = c then [keep a] else [swap a c]
end Ed
open Ed
variable {α : Type} [DecidableEq α]
def givenE (f : List (Ed α)) : List α := f.flatMap inn
def madeE (f : List (Ed α)) : List α := f.flatMap out
def sumE : List (Ed α) → List (Ed α) → List (Ed α)
  | .drop a :: f, s => .drop a :: sumE f s
  | f, .put b :: s => .put b :: sumE f s
  | a :: f, b :: s => comp a b ++ sumE f s
  | _, _ => []
termination_by f s => f.length + s.length
theorem sumE_drop (a : α) (f s : List (Ed α)) : sumE (.drop a :: f) s = .drop a :: sumE f s := by rw [sumE]
theorem sumE_nil_put (b : α) (s : List (Ed α)) : sumE [] (.put b :: s) = .put b :: sumE [] s := by rw [sumE]; simp
theorem sumE_put {x : Ed α} (h : isDrop x = false) (b : α) (f s : List (Ed α)) : sumE (x :: f) (.put b :: s) = .put b :: sumE (x :: f) s := by
  cases x <;> first | (cases h; done) | (rw [sumE]; simp)
theorem sumE_comp {x y : Ed α} (h : isDrop x = false) (g : isPut y = false) (f s : List (Ed α)) : sumE (x :: f) (y :: s) = comp x y ++ sumE f s := by
  cases x <;> cases y <;> first | (cases h; done) | (cases g; done) | (rw [sumE] <;> simp)
theorem sumE_nil : sumE ([] : List (Ed α)) [] = [] := by rw [sumE] <;> simp
/-- a row that can be put together -/
def Mt (f s : List (Ed α)) : Prop := madeE f = givenE s
theorem given_cons (x : Ed α) (f : List (Ed α)) : givenE (x :: f) = inn x ++ givenE f := rfl
theorem made_cons (x : Ed α) (f : List (Ed α)) : madeE (x :: f) = out x ++ madeE f := rfl
/-- the ways of a matched pair -/
inductive Mtd : List (Ed α) → List (Ed α) → Prop
  | nil : Mtd [] []
  | drop (a : α) {f s} : Mtd f s → Mtd (.drop a :: f) s
  | put (b : α) {f s} : (∀ x ∈ f.head?, isDrop x = false) → Mtd f s → Mtd f (.put b :: s)
  | both {x y : Ed α} {f s} (h : isDrop x = false) (g : isPut y = false) (e : out x = inn y) : Mtd f s → Mtd (x :: f) (y :: s)
theorem mtd_of : ∀ (n : Nat) (f s : List (Ed α)), f.length + s.length ≤ n → Mt f s → Mtd f s
  | 0, [], [], _, _ => .nil
  | 0, _ :: _, _, l, _ => by simp at l
  | 0, [], _ :: _, l, _ => by simp at l
  | n + 1, .drop a :: f, s, l, h => .drop a (mtd_of n f s (by simp at l; omega) h)
  | n + 1, [], [], _, _ => .nil
  | n + 1, [], y :: s, l, h => by
    cases y with
    | put b => exact .put b (by simp) (mtd_of n [] s (by simp at l ⊢; omega) h)
    | _ => exact absurd h (by simp [Mt, madeE, givenE, inn])
  | n + 1, x :: f, s, l, h => by
    cases hx : isDrop x with
    | true =>
      cases x <;> first | (cases hx; done) | skip
      case drop a => exact .drop a (mtd_of n f s (by simp at l; omega) h)
    | false =>
      cases s with
      | nil => cases x <;> first | (cases hx; done) | exact absurd h (by simp [Mt, madeE, givenE, out])
      | cons y s =>
        cases hy : isPut y with
        | true =>
          cases y <;> first | (cases hy; done) | skip
          case put b => exact .put b (fun z hz => by simp at hz; subst hz; exact hx) (mtd_of n _ s (by simp at l ⊢; omega) h)
        | false =>
          have e : out x = inn y ∧ Mt f s := by
            unfold Mt at h ⊢
            rw [made_cons, given_cons] at h
            cases x <;> cases y <;> first | (cases hx; done) | (cases hy; done) | (simp [out, inn] at h ⊢; exact h)
          exact .both hx hy e.1 (mtd_of n f s (by simp at l; omega) e.2)
theorem Mtd.mt {f s : List (Ed α)} (h : Mtd f s) : Mt f s := by
  induction h with
  | nil => rfl
  | drop a _ ih => exact ih
  | put b _ _ ih => exact ih
  | both h g e _ ih =>
    unfold Mt at ih ⊢
    rw [made_cons, given_cons, e, ih]
theorem Mtd.sum_put {f s : List (Ed α)} (b : α) (h : ∀ x ∈ f.head?, isDrop x = false) : sumE f (.put b :: s) = .put b :: sumE f s := by
  cases f with
  | nil => exact sumE_nil_put b s
  | cons x f => exact sumE_put (h x (by simp)) b f s
/-- one step behind another -/
theorem comp_io {x y : Ed α} (h : isDrop x = false) (g : isPut y = false) (e : out x = inn y) (oy : ok y) : givenE (comp x y) = inn x ∧ madeE (comp x y) = out y := by
  cases x <;> cases y <;> first | (cases h; done) | (cases g; done) | skip
  all_goals simp [out, inn] at e
  all_goals try subst e
  all_goals simp only [comp]
  all_goals try split
  all_goals simp_all [givenE, madeE, inn, out]
theorem comp_ok {x y : Ed α} (ox : ok x) (oy : ok y) : ∀ z ∈ comp x y, ok z := by
  cases x <;> cases y <;> simp only [comp] <;> (try split) <;> simp_all [ok]
theorem comp_turn {x y : Ed α} (h : isDrop x = false) (g : isPut y = false) (e : out x = inn y) : (comp x y).map turn = comp (turn y) (turn x) := by
  cases x <;> cases y <;> first | (cases h; done) | (cases g; done) | skip
  all_goals simp [out, inn] at e
  all_goals try subst e
  all_goals simp only [comp, turn]
  all_goals try rfl
  case swap.swap a b c =>
    by_cases z : a = c
    · subst z; simp [turn]
    · rw [if_neg z, if_neg (fun q => z q.symm)]; rfl
theorem given_app (f s : List (Ed α)) : givenE (f ++ s) = givenE f ++ givenE s := by simp [givenE]
theorem made_app (f s : List (Ed α)) : madeE (f ++ s) = madeE f ++ madeE s := by simp [madeE]
/-- (A) what a sum reads and writes -/
theorem sum_io {f s : List (Ed α)} (m : Mtd f s) (os : ∀ x ∈ s, ok x) : givenE (sumE f s) = givenE f ∧ madeE (sumE f s) = madeE s := by
  induction m with
  | nil => rw [sumE_nil]; exact ⟨rfl, rfl⟩
  | drop a _ ih =>
    rw [sumE_drop, given_cons, given_cons, (ih os).1, made_cons, (ih os).2]
    exact ⟨rfl, rfl⟩
  | put b h _ ih =>
    have o := ih fun x hx => os x (List.mem_cons_of_mem _ hx)
    rw [Mtd.sum_put b h, given_cons, o.1, made_cons, made_cons, o.2]
    exact ⟨rfl, rfl⟩
  | both h g e _ ih =>
    have o := ih fun x hx => os x (List.mem_cons_of_mem _ hx)
    have c := comp_io h g e (os _ List.mem_cons_self)
    rw [sumE_comp h g, given_app, made_app, o.1, o.2, c.1, c.2]
    exact ⟨rfl, rfl⟩
theorem sum_ok {f s : List (Ed α)} (m : Mtd f s) (of : ∀ x ∈ f, ok x) (os : ∀ x ∈ s, ok x) : ∀ x ∈ sumE f s, ok x := by
  induction m with
  | nil => rw [sumE_nil]; exact of
  | drop a _ ih =>
    rw [sumE_drop]
    intro x hx
    rcases List.mem_cons.mp hx with rfl | hx
    · trivial
    · exact ih (fun x hx => of x (List.mem_cons_of_mem _ hx)) os x hx
  | put b h _ ih =>
    rw [Mtd.sum_put b h]
    intro x hx
    rcases List.mem_cons.mp hx with rfl | hx
    · trivial
    · exact ih of (fun x hx => os x (List.mem_cons_of_mem _ hx)) x hx
  | both h g e _ ih =>
    rw [sumE_comp h g]
    intro x hx
    rcases List.mem_append.mp hx with hx | hx
    · exact comp_ok (of _ List.mem_cons_self) (os _ List.mem_cons_self) x hx
    · exact ih (fun x hx => of x (List.mem_cons_of_mem _ hx)) (fun x hx => os x (List.mem_cons_of_mem _ hx)) x hx
/-- the pairs that meet -/
def metE (f s : List (Ed α)) : List (Ed α × Ed α) := (f.filter fun x => !isDrop x).zip (s.filter fun y => !isPut y)
theorem sum_perm {f s : List (Ed α)} (m : Mtd f s) : (sumE f s).Perm ((f.filter isDrop) ++ (s.filter isPut) ++ (metE f s).flatMap fun p => comp p.1 p.2) := by
  induction m with
  | nil => rw [sumE_nil]; exact List.Perm.refl _
  | drop a _ ih =>
    rw [sumE_drop]
    exact ih.cons _
  | @put b f s h _ ih =>
    rw [Mtd.sum_put b h]
    have e : metE f (.put b :: s) = metE f s := by simp [metE, isPut]
    rw [e]
    refine (ih.cons _).trans ?_
    simp only [List.filter_cons, isPut, if_true, List.append_assoc]
    exact (List.perm_middle (a := Ed.put b) (l₁ := f.filter isDrop) (l₂ := s.filter isPut ++ (metE f s).flatMap fun p => comp p.1 p.2)).symm
  | @both x y f s h g e _ ih =>
    rw [sumE_comp h g]
    have e : metE (x :: f) (y :: s) = (x, y) :: metE f s := by simp [metE, h, g]
    rw [e, List.flatMap_cons]
    simp only [List.filter_cons, h, g]
    refine (ih.append_left _).trans ?_
    simp only [Bool.false_eq_true, if_false]
    have z := (List.perm_append_comm (l₁ := comp x y) (l₂ := f.filter isDrop ++ s.filter isPut)).append_right ((metE f s).flatMap fun p => comp p.1 p.2)
    simpa only [List.append_assoc] using z
theorem turn_turn (x : Ed α) : turn (turn x) = x := by cases x <;> rfl
theorem turn_ok {x : Ed α} (h : ok x) : ok (turn x) := by
  cases x <;> first | trivial | exact fun e => h e.symm
theorem turn_in (x : Ed α) : inn (turn x) = out x := by cases x <;> rfl
theorem turn_out (x : Ed α) : out (turn x) = inn x := by cases x <;> rfl
theorem turn_put (x : Ed α) : isPut (turn x) = isDrop x := by cases x <;> rfl
theorem turn_drop (x : Ed α) : isDrop (turn x) = isPut x := by cases x <;> rfl
theorem given_turn (f : List (Ed α)) : givenE (f.map turn) = madeE f := by
  simp only [givenE, madeE, List.flatMap_map, turn_in]
theorem made_turn (f : List (Ed α)) : madeE (f.map turn) = givenE f := by
  simp only [givenE, madeE, List.flatMap_map, turn_out]
theorem met_turn (f s : List (Ed α)) : metE (s.map turn) (f.map turn) = (metE f s).map fun p => (turn p.2, turn p.1) := by
  simp only [metE, List.filter_map, Function.comp_def, turn_put, turn_drop, List.zip_map, List.map_map]
  generalize f.filter _ = F
  generalize s.filter _ = S
  induction F generalizing S with
  | nil => cases S <;> rfl
  | cons x F ih => cases S with
    | nil => rfl
    | cons y S => simp only [List.zip_cons_cons, List.map_cons]; rw [ih S]; rfl
theorem met_ok {f s : List (Ed α)} (m : Mtd f s) : ∀ p ∈ metE f s, isDrop p.1 = false ∧ isPut p.2 = false ∧ out p.1 = inn p.2 := by
  induction m with
  | nil => intro p h; simp [metE] at h
  | drop a _ ih => exact ih
  | @put b f s h _ ih =>
    have e : metE f (.put b :: s) = metE f s := by simp [metE, isPut]
    rw [e]; exact ih
  | @both x y f s h g e _ ih =>
    have e' : metE (x :: f) (y :: s) = (x, y) :: metE f s := by simp [metE, h, g]
    rw [e']
    intro p hp
    rcases List.mem_cons.mp hp with rfl | hp
    · exact ⟨h, g, e⟩
    · exact ih p hp
/-- (F) turned round, a sum's steps are those of the turned sum -/
theorem turn_perm {f s : List (Ed α)} (m : Mtd f s) : ((sumE f s).map turn).Perm (sumE (s.map turn) (f.map turn)) := by
  have mt : Mt (s.map turn) (f.map turn) := by unfold Mt; rw [made_turn, given_turn]; exact m.mt.symm
  have a := (sum_perm m).map turn
  have b := sum_perm (mtd_of _ _ _ (Nat.le_refl _) mt)
  refine a.trans (List.Perm.trans ?_ b.symm)
  rw [met_turn, List.flatMap_map, List.map_append, List.map_append]
  have e1 : (f.filter isDrop).map turn = (f.map turn).filter isPut := by simp only [List.filter_map, Function.comp_def, turn_put]
  have e2 : (s.filter isPut).map turn = (s.map turn).filter isDrop := by simp only [List.filter_map, Function.comp_def, turn_drop]
  have e3 : ((metE f s).flatMap fun p => comp p.1 p.2).map turn = (metE f s).flatMap fun p => comp (turn p.2) (turn p.1) := by
    rw [List.map_flatMap]
    have : ∀ l : List (Ed α × Ed α), (∀ p ∈ l, isDrop p.1 = false ∧ isPut p.2 = false ∧ out p.1 = inn p.2) → (l.flatMap fun p => (comp p.1 p.2).map turn) = l.flatMap fun p => comp (turn p.2) (turn p.1) := by
      intro l
      induction l with
      | nil => intro _; rfl
      | cons p l ih =>
        intro h
        obtain ⟨h1, h2, h3⟩ := h p List.mem_cons_self
        rw [List.flatMap_cons, List.flatMap_cons, comp_turn h1 h2 h3, ih fun q hq => h q (List.mem_cons_of_mem _ hq)]
    exact this _ (met_ok m)
  rw [e1, e2, e3]
  exact List.perm_append_comm.append_right _
/-- (D, E) what is paid -/
theorem sum_cost {f s : List (Ed α)} (m : Mtd f s) (c : Ed α → Nat) (hk : ∀ a, c (.keep a) = 0) (h : ∀ x y z, isDrop x = false → isPut y = false → z ∈ comp x y → (comp x y = [z]) ∧ c z ≤ c x + c y) : ((sumE f s).map c).sum ≤ (f.map c).sum + (s.map c).sum := by
  induction m with
  | nil => rw [sumE_nil]; simp
  | drop a _ ih =>
    rw [sumE_drop]
    simp only [List.map_cons, List.sum_cons]
    omega
  | put b h' _ ih =>
    rw [Mtd.sum_put b h']
    simp only [List.map_cons, List.sum_cons]
    omega
  | @both x y f s h' g e _ ih =>
    rw [sumE_comp h' g, List.map_append, List.sum_append]
    simp only [List.map_cons, List.sum_cons]
    have : ((comp x y).map c).sum ≤ c x + c y := by
      cases hc : comp x y with
      | nil => simp
      | cons z l =>
        obtain ⟨h1, h2⟩ := h x y z h' g (by rw [hc]; exact List.mem_cons_self)
        rw [hc] at h1
        rw [h1]
        simpa using h2
    omega

theorem comp_head {x y : Ed α} (h : isDrop x = false) (g : isPut y = false) : (isPut y = false ∧ isDrop y = false → comp x y ≠ [] ∧ ∀ z ∈ comp x y, isDrop z = false) ∧ (isPut x = false → comp x y ≠ [] ∧ ∀ z ∈ comp x y, isPut z = false) := by
  cases x <;> cases y <;> first | (cases h; done) | (cases g; done) | skip
  all_goals simp only [comp]
  all_goals try split
  all_goals simp [isDrop, isPut]
theorem cs_eq (a b b' : α) : comp (.swap a b) (.swap b' a) = [.keep a] := by simp only [comp]; simp
theorem cs_ne {a c : α} (h : a ≠ c) (b b' : α) : comp (.swap a b) (.swap b' c) = [.swap a c] := by simp only [comp]; rw [if_neg h]
/-- three steps in a row -/
theorem comp_assoc {x y z : Ed α} (hx : isDrop x = false) (hy : isDrop y = false ∧ isPut y = false) (hz : isPut z = false) (e1 : out x = inn y) (e2 : out y = inn z) (ox : ok x) (oy : ok y) (oz : ok z) : ∃ a b, comp x y = [a] ∧ comp y z = [b] ∧ isDrop a = false ∧ isPut b = false ∧ comp a z = comp x b := by
  obtain ⟨hy1, hy2⟩ := hy
  cases x <;> cases y <;> cases z <;> first | (cases hx; done) | (cases hy1; done) | (cases hy2; done) | (cases hz; done) | skip
  all_goals simp [out, inn] at e1 e2
  all_goals try subst e1
  all_goals try subst e2
  all_goals try exact ⟨_, _, rfl, rfl, rfl, rfl, rfl⟩
  all_goals simp only [ok] at ox oy oz
  case keep.swap.swap c b d =>
    by_cases w : c = d
    · subst w; exact ⟨_, _, rfl, cs_eq _ _ _, rfl, rfl, cs_eq _ _ _⟩
    · exact ⟨_, _, rfl, cs_ne w _ _, rfl, rfl, cs_ne w _ _⟩
  case put.swap.swap c b d =>
    by_cases w : c = d
    · subst w; exact ⟨_, _, rfl, cs_eq _ _ _, rfl, rfl, rfl⟩
    · exact ⟨_, _, rfl, cs_ne w _ _, rfl, rfl, rfl⟩
  case swap.swap.keep a b d =>
    by_cases w : a = d
    · subst w; exact ⟨_, _, cs_eq _ _ _, rfl, rfl, rfl, (cs_eq _ _ _).symm⟩
    · exact ⟨_, _, cs_ne w _ _, rfl, rfl, rfl, (cs_ne w _ _).symm⟩
  case swap.swap.drop a b d =>
    by_cases w : a = d
    · subst w; exact ⟨_, _, cs_eq _ _ _, rfl, rfl, rfl, rfl⟩
    · exact ⟨_, _, cs_ne w _ _, rfl, rfl, rfl, rfl⟩
  case swap.swap.swap a b c d =>
    by_cases w : a = c
    · subst w
      by_cases v : b = d
      · subst v
        exact ⟨_, _, cs_eq _ _ _, cs_eq _ _ _, rfl, rfl, rfl⟩
      · exact ⟨_, _, cs_eq _ _ _, cs_ne v _ _, rfl, rfl, (cs_ne oz _ _).symm⟩
    · by_cases v : b = d
      · subst v
        exact ⟨_, _, cs_ne w _ _, cs_eq _ _ _, rfl, rfl, cs_ne ox _ _⟩
      · exact ⟨_, _, cs_ne w _ _, cs_ne v _ _, rfl, rfl, rfl⟩
/-- (B) sums may be put together in any way -/
theorem sum_assoc : ∀ (n : Nat) (f g h : List (Ed α)), f.length + g.length + h.length ≤ n → Mtd f g → Mtd g h → (∀ x ∈ f, ok x) → (∀ x ∈ g, ok x) → (∀ x ∈ h, ok x) → sumE (sumE f g) h = sumE f (sumE g h)
  | 0, f, g, h, l, _, _, _, _, _ => by
    have a : f = [] := List.length_eq_zero_iff.mp (by omega)
    have b : g = [] := List.length_eq_zero_iff.mp (by omega)
    have c : h = [] := List.length_eq_zero_iff.mp (by omega)
    subst a; subst b; subst c
    simp only [sumE_nil]
  | n + 1, f, g, h, l, m1, m2, o1, o2, o3 => by
    have tl : ∀ {x : Ed α} {r : List (Ed α)}, (∀ y ∈ x :: r, ok y) → ∀ y ∈ r, ok y := fun q y m => q y (List.mem_cons_of_mem _ m)
    cases m1 with
    | @drop a f g m1 =>
      rw [sumE_drop, sumE_drop, sumE_drop, sum_assoc n f g h (by simp at l; omega) m1 m2 (tl o1) o2 o3]
    | nil =>
      cases m2 with
      | nil => simp only [sumE_nil]
      | @put c _ h' p m2 =>
        have ih := sum_assoc n [] [] h' (by simp at l ⊢; omega) .nil m2 o1 o2 (tl o3)
        rw [sumE_nil] at ih
        rw [sumE_nil, sumE_nil_put, sumE_nil_put, ← ih]
    | @put b _ g' p m1 =>
      cases m2 with
      | @put c _ h' p2 m2 =>
        rw [Mtd.sum_put b p, Mtd.sum_put c p2, sumE_put rfl, Mtd.sum_put c p, ← Mtd.sum_put b p]
        rw [sum_assoc n f (.put b :: g') h' (by simp at l ⊢; omega) (.put b p m1) m2 o1 o2 (tl o3)]
      | @both _ y _ h' hx hy e m2 =>
        rw [Mtd.sum_put b p, sumE_comp rfl hy, sumE_comp rfl hy, sum_assoc n f g' h' (by simp at l ⊢; omega) m1 m2 o1 (tl o2) (tl o3)]
        cases y <;> first | (cases hy; done) | skip
        case keep d => exact (Mtd.sum_put b p).symm
        case drop d => rfl
        case swap d e' => exact (Mtd.sum_put e' p).symm
    | @both x y f' g' hx hy e m1 =>
      cases m2 with
      | @drop a _ _ m2 =>
        rw [sumE_drop, sumE_comp hx hy, sumE_comp hx rfl]
        have ih := sum_assoc n f' g' h (by simp at l ⊢; omega) m1 m2 (tl o1) (tl o2) o3
        cases x <;> first | (cases hx; done) | skip
        case keep d => simp only [comp, List.cons_append, List.nil_append]; rw [sumE_drop, ih]
        case put d => simp only [comp, List.nil_append]; exact ih
        case swap d e' => simp only [comp, List.cons_append, List.nil_append]; rw [sumE_drop, ih]
      | @put c _ h' p2 m2 =>
        have p : ∀ z ∈ (x :: f').head?, isDrop z = false := fun z hz => by simp at hz; subst hz; exact hx
        have dy := p2 y (by simp)
        rw [Mtd.sum_put c p2, Mtd.sum_put c p, Mtd.sum_put c, sum_assoc n (x :: f') (y :: g') h' (by simp at l ⊢; omega) (.both hx hy e m1) m2 o1 o2 (tl o3)]
        intro z hz
        rw [sumE_comp hx hy] at hz
        obtain ⟨q1, q2⟩ := (comp_head hx hy).1 ⟨hy, dy⟩
        cases hc : comp x y with
        | nil => exact absurd hc q1
        | cons w r =>
          rw [hc] at hz q2
          simp at hz
          subst hz
          exact q2 _ List.mem_cons_self
      | @both _ z _ h' hy' hz e2 m2 =>
        obtain ⟨a, b, c1, c2, d1, d2, c3⟩ := comp_assoc hx ⟨hy', hy⟩ hz e e2 (o1 _ List.mem_cons_self) (o2 _ List.mem_cons_self) (o3 _ List.mem_cons_self)
        rw [sumE_comp hx hy, sumE_comp hy' hz, c1, c2, List.singleton_append, List.singleton_append, sumE_comp d1 hz, sumE_comp hx d2, c3]
        rw [sum_assoc n f' g' h' (by simp at l ⊢; omega) m1 m2 (tl o1) (tl o2) (tl o3)]
def keptE (s : List α) : List (Ed α) := s.map .keep
theorem given_kept (s : List α) : givenE (keptE s) = s := by
  induction s with
  | nil => rfl
  | cons c s ih => simp only [keptE, List.map_cons] at ih ⊢; rw [given_cons, ih]; rfl
theorem made_kept (s : List α) : madeE (keptE s) = s := by
  induction s with
  | nil => rfl
  | cons c s ih => simp only [keptE, List.map_cons] at ih ⊢; rw [made_cons, ih]; rfl
theorem kept_ok (s : List α) : ∀ x ∈ keptE s, ok x := fun x h => by
  obtain ⟨c, _, rfl⟩ := List.mem_map.mp h
  trivial
/-- (C) what keeps all changes nothing -/
theorem kept_sum : ∀ f : List (Ed α), sumE (keptE (givenE f)) f = f
  | [] => sumE_nil
  | .put b :: f => by
    have e : givenE (.put b :: f) = givenE f := rfl
    rw [e, Mtd.sum_put b, kept_sum f]
    intro x hx
    cases h : givenE f with
    | nil => rw [h] at hx; simp [keptE] at hx
    | cons c r => rw [h] at hx; simp [keptE] at hx; subst hx; rfl
  | .keep a :: f => by
    have e : keptE (givenE (.keep a :: f)) = .keep a :: keptE (givenE f) := rfl
    rw [e, sumE_comp rfl rfl, kept_sum f]; rfl
  | .drop a :: f => by
    have e : keptE (givenE (.drop a :: f)) = .keep a :: keptE (givenE f) := rfl
    rw [e, sumE_comp rfl rfl, kept_sum f]; rfl
  | .swap a b :: f => by
    have e : keptE (givenE (.swap a b :: f)) = .keep a :: keptE (givenE f) := rfl
    rw [e, sumE_comp rfl rfl, kept_sum f]; rfl
theorem sum_kept : ∀ f : List (Ed α), sumE f (keptE (madeE f)) = f
  | [] => sumE_nil
  | .drop b :: f => by
    have e : madeE (.drop b :: f) = madeE f := rfl
    rw [e, sumE_drop, sum_kept f]
  | .keep a :: f => by
    have e : keptE (madeE (.keep a :: f)) = .keep a :: keptE (madeE f) := rfl
    rw [e, sumE_comp rfl rfl, sum_kept f]; rfl
  | .put a :: f => by
    have e : keptE (madeE (.put a :: f)) = .keep a :: keptE (madeE f) := rfl
    rw [e, sumE_comp rfl rfl, sum_kept f]; rfl
  | .swap a b :: f => by
    have e : keptE (madeE (.swap a b :: f)) = .keep b :: keptE (madeE f) := rfl
    rw [e, sumE_comp rfl rfl, sum_kept f]; rfl
theorem sum_len : ∀ {f s : List (Ed α)}, Mtd f s → (sumE f s).length ≤ f.length + s.length := by
  intro f s m
  induction m with
  | nil => rw [sumE_nil]; simp
  | drop a _ ih => rw [sumE_drop]; simp; omega
  | put b h _ ih => rw [Mtd.sum_put b h]; simp; omega
  | @both x y f s h g e _ ih =>
    rw [sumE_comp h g]
    have : (comp x y).length ≤ 1 := by
      cases x <;> cases y <;> simp only [comp] <;> (try split) <;> simp
    simp only [List.length_append, List.length_cons]
    omega
end Sk

/-! The program's defs and the law's, by their places. -/
namespace Sk
open PySem PySem.Spec PyProof.Rows L2 Evl
def topS (i : Nat) : Stmt := PySem.Challenge.pw_soonknown_k41_scripts_made_and_refused.main.body.getD i (.Pass ⟨0, 0, 0, 0⟩)
abbrev sSign : Stmt := topS 9
abbrev sStep : Stmt := topS 10
abbrev sAre : Stmt := topS 11
abbrev sTurn : Stmt := topS 12
abbrev sSumd : Stmt := topS 13
abbrev sComp : Stmt := topS 14
abbrev sInit : Stmt := inClass (topS 15) 0
abbrev sKept : Stmt := inClass (topS 15) 1
abbrev sCall : Stmt := inClass (topS 15) 2
abbrev sLen : Stmt := inClass (topS 15) 3
abbrev sInv : Stmt := inClass (topS 15) 4
abbrev sAdd : Stmt := inClass (topS 15) 5
abbrev sEq : Stmt := inClass (topS 15) 6
abbrev sCost : Stmt := inClass (topS 15) 7
abbrev sStream : Stmt := topS 71
abbrev sDraw : Stmt := topS 72
abbrev sChoose : Stmt := topS 73
abbrev sWord : Stmt := topS 74
abbrev sSigns : Stmt := topS 75
abbrev sSteps : Stmt := topS 76
abbrev sGiven : Stmt := topS 77
abbrev sMade : Stmt := topS 78
abbrev sIsStep : Stmt := topS 79
abbrev sOdd : Stmt := topS 80
abbrev sThings : Stmt := topS 81
abbrev sTold : Stmt := topS 82
abbrev sRight : Stmt := topS 83
abbrev sRefused : Stmt := topS 84
abbrev sLaw : Stmt := topS 85
end Sk

/-! The built-ins that are used. -/
namespace Sk
open PySem PySem.Spec PyProof.Rows L2 Evl
structure Blt (mg : Str → Option Value) : Prop where
  isi : mg "isinstance" = none
  bool : mg "bool" = none
  int : mg "int" = none
  str : mg "str" = none
  list : mg "list" = none
  dict : mg "dict" = none
  sorted : mg "sorted" = none
  len : mg "len" = none
  range : mg "range" = none
  min : mg "min" = none
  max : mg "max" = none
  repr : mg "repr" = none
theorem bt_bool : bootBuiltins "bool" = some (.type "bool") := by decide +kernel
theorem bt_int : bootBuiltins "int" = some (.type "int") := by decide +kernel
theorem bt_str : bootBuiltins "str" = some (.type "str") := by decide +kernel
theorem bt_list : bootBuiltins "list" = some (.type "list") := by decide +kernel
theorem bt_dict : bootBuiltins "dict" = some (.type "dict") := by decide +kernel
theorem bt_isi : bootBuiltins "isinstance" = some (.builtin "isinstance") := by decide +kernel
theorem line_le {n : Nat} (h : n ≤ 16000000) : n ≤ sizeLine := by rw [sizeLine_eq]; omega
structure Blt2 (mg : Str → Option Value) : Prop where
  tuple : mg "tuple" = none
  set : mg "set" = none
  zip : mg "zip" = none
theorem bt_tuple : bootBuiltins "tuple" = some (.type "tuple") := by decide +kernel
theorem bt_min : bootBuiltins "min" = some (.builtin "min") := by decide +kernel
theorem bt_max : bootBuiltins "max" = some (.builtin "max") := by decide +kernel
theorem bt_sum : bootBuiltins "sum" = some (.builtin "sum") := by decide +kernel
structure Lt (P : Program) (w : World) (K : PySem.W.Frag) (mg : Str → Option Value) (base : Heap) (f : Addr) (fd : FuncData) (x : Str) (ps : List Str) (k : Nat) (sp : Sp) : Prop where
  g : FnOk P w K mg base CX0 k f fd ps sp
  b : Binds K fd ps []
  k : PySem.W.keepIn K (.ref f) = true
  m : mg x = some (.ref f)
end Sk

namespace Sk
open PySem PySem.Spec PyProof.Rows L2 Evl
theorem scStream : FnScope ["script", "start_v", "seed", "entry", "digits"] ["script", "start_v"] (defScope sStream) := ⟨rfl, rfl, rfl, by decide +kernel, rfl, by decide +kernel, by decide +kernel⟩
theorem scDraw : FnScope ["stream", "size", "found", "mixed"] ["stream", "size"] (defScope sDraw) := ⟨rfl, rfl, rfl, by decide +kernel, rfl, by decide +kernel, by decide +kernel⟩
theorem scChoose : FnScope ["stream", "items"] ["stream", "items"] (defScope sChoose) := ⟨rfl, rfl, rfl, by decide +kernel, rfl, by decide +kernel, by decide +kernel⟩
/-- a source is made of the script -/
def spStream (K : PySem.W.Frag) : Sp := fun vs H Q _ => ∃ (a : Addr) (ns : List Int) (k : Int), vs = [.ref a, .int k] ∧ SqL K H a (ns.map V.int) ∧ ns.length ≤ 63 ∧ (∀ z ∈ ns, Builtin.Int.intBits z ≤ 1048576) ∧ 0 ≤ k ∧ k ≤ 100 ∧
  ∀ (st : Addr) (H' : Hp), H st = none → Ex H H' → Strm st H' → Q (.ref st) H'
/-- a draw: some number below the size -/
def spDraw : Sp := fun vs H Q _ => ∃ (st : Addr) (n : Int), vs = [.ref st, .int n] ∧ Strm st H ∧ 1 ≤ n ∧ n ≤ 1000000000 ∧
  ∀ (k : Int) (H' : Hp), 0 ≤ k → k < n → Aft st H H' → Q (.int k) H'
/-- a choice: some item -/
def Chs (K : PySem.W.Frag) (H : Hp) (x : V) (P : V → Prop) : Prop :=
  (∃ (a : Addr) (xs : List V), x = .ref a ∧ (SqL K H a xs ∨ SqT K H a xs) ∧ xs ≠ [] ∧ xs.length ≤ 100000 ∧ ∀ v ∈ xs, P v) ∨
  ∃ z : Str, x = .str z ∧ z.cps.toList ≠ [] ∧ z.length ≤ 100000 ∧ ∀ c ∈ z.cps.toList, P (.str ⟨#[c]⟩)
def spChoose (K : PySem.W.Frag) : Sp := fun vs H Q _ => ∃ (st : Addr) (x : V) (P : V → Prop), vs = [.ref st, x] ∧ Strm st H ∧ Chs K (Hd st H) x P ∧
  ∀ (v : V) (H' : Hp), P v → Aft st H H' → Q v H'
section
variable {P : Program} {w : World} {K : PySem.W.Frag} {mg : Str → Option Value} {base : Heap} {f g : Addr} {fd gd : FuncData}
theorem seed_next {s n : Int} (hs : 0 ≤ s ∧ s < 2 ^ 31) (hn : Builtin.Int.intBits n ≤ 1048576) : CMulW s 40127 ∧ CPowB (s * 40127 + n) 3 := by
  have h1 : s.natAbs < 2 ^ 31 := by omega
  have h2 : (40127 : Int).natAbs < 2 ^ 16 := by decide
  refine ⟨wide_mul h1 h2 (by decide) (by decide) (by decide), by decide, ?_⟩
  have h3 := abs_of_bits hn
  have h4 : (s * 40127).natAbs < 2 ^ (31 + 16) := wide_lt h1 h2
  have h5 : (2 : Nat) ^ (31 + 16) ≤ 2 ^ 1048576 := Nat.pow_le_pow_right (by decide) (by decide)
  have h6 : (s * 40127 + n).natAbs < 2 ^ 1048577 := by
    have e : (2 : Nat) ^ 1048577 = 2 ^ 1048576 + 2 ^ 1048576 := by rw [Nat.pow_succ]; omega
    rw [e]
    generalize (2 : Nat) ^ 1048576 = M at *
    omega
  have h7 := bits_of h6 (by decide)
  have e : ((2 : Int) ^ 27) = 134217728 := by decide
  rw [e]
  omega
theorem ok_stream {k : Nat} (F : Fun K "_law_stream" "_law_stream" sStream f fd) (B : Blt mg) : FnOk P w K mg base CX0 (k + 1) f fd ["script", "start_v"] (spStream K) := by
  refine F.ok scStream (fun vs H Q E h => ?_) (fun cdv A outer s H vs Q E hr h => ?_)
  · obtain ⟨a, ns, k, rfl, _⟩ := h
    rfl
  obtain ⟨a, ns, k, rfl, hS, h63, hb, h0, h1, q⟩ := h
  have nd := scStream.nd
  refine ⟨_, pss_cons (ps_set (i := 2) nd rfl (Or.inl rfl) (pe_op op_add pe_int (pv 1)))
    (pss_cons (ps_for PassesOwn.never rfl (pi_list (pv 0)) (pg_name (i := 3) nd rfl (Or.inl rfl))
      (pss_one (ps_set (i := 2) nd rfl (Or.inl rfl) (pe_op op_add (pe_op op_mod (pe_callTy call_int1 rfl B.int bt_int (pa_cons (pe_op op_powB (pe_callTy call_int1 rfl B.int bt_int (pa_cons (pe_op op_add (pe_op op_mulW (pv 2) pe_int) (pe_callTy call_int1 rfl B.int bt_int (pa_cons (pv 3) pa_nil))) pa_nil)) pe_int) pa_nil)) pe_int) pe_int))))
    (pss_cons (ps_set (i := 4) nd rfl (Or.inl rfl) pe_int)
    (pss_cons (ps_if (PW.pt (pw_and (pt_cmpR op_lt (pv 1) (pe_callB call_len_seq rfl B.len PySem.boot_len (pa_cons (pv 0) pa_nil)) (nomark _)) (pw_and1 (pt_cmpR op_ge (pe_ix ix_list (pv 0) (pv 1) (fun _ _ => rfl)) (pe_op op_powB pe_int pe_int) (nomark _)))))
      (pss_one (ps_set (i := 4) nd rfl (Or.inl rfl) (pe_op op_sub (pe_ix ix_list (pv 0) (pv 1) (fun _ _ => rfl)) (pe_op op_powB pe_int pe_int)))) pss_nil)
    (pss_one (ps_ret (pe_lst (pa_cons (pv 4) (pa_cons (pv 2) pa_nil)))))))), ?_⟩
  refine ⟨_, rfl, _, _, rfl, rfl, ?_⟩
  refine ⟨_, rfl, a, rfl, ⟨_, hS⟩, for_list (xs := ns.map V.int) (fun i σ H' => ∃ (s : Int) (y : Option V), σ = [some (.ref a), some (.int k), some (.int s), y, none] ∧ 0 ≤ s ∧ s < 2 ^ 31 ∧ H' = H) ⟨41 + k, none, rfl, by omega, by omega, rfl⟩ (fun i σ H' _ hp => ?_) (fun i x σ H' hx hp => ?_) (fun σ H' hp => ?_)⟩
  · obtain ⟨_, _, _, _, _, rfl⟩ := hp
    exact hS
  · obtain ⟨s, y, rfl, hs0, hs1, rfl⟩ := hp
    rw [List.getElem?_map] at hx
    obtain ⟨n, hn, rfl⟩ := Option.map_eq_some_iff.mp hx
    have hbn := hb n (List.mem_of_getElem? hn)
    obtain ⟨c1, c2⟩ := seed_next ⟨hs0, hs1⟩ hbn
    have hm : (0 : Int) < 2147483629 := by decide
    refine ⟨_, rfl, _, _, rfl, rfl, c1, _, rfl, .inl ⟨_, rfl, _, _, rfl, rfl, .inl ⟨_, rfl, _, _, rfl, rfl, c2, .inl ⟨_, rfl, _, _, rfl, rfl, hm, _, _, rfl, rfl, _, some (.int n), rfl, ?_, ?_, rfl⟩⟩⟩⟩
    · have := Int.emod_nonneg ((s * 40127 + n) ^ (3 : Int).toNat) (show (2147483629 : Int) ≠ 0 by decide)
      omega
    · have := Int.emod_lt_of_pos ((s * 40127 + n) ^ (3 : Int).toNat) hm
      have e : ((2 : Int) ^ 31) = 2147483648 := by decide
      rw [e]
      omega
  · obtain ⟨s, y, rfl, hs0, hs1, rfl⟩ := hp
    have fin : ∀ d : Int, 0 ≤ d → d.natAbs < 2 ^ 1100000 → ([V.int d, V.int s].length ≤ sizeLine ∧ ∀ p, H' p = none → Q (.ref p) (upd H' p (.lst [.int d, .int s]))) := fun d hd1 hd2 =>
      ⟨(by show 2 ≤ sizeLine; decide), fun p hp => q p _ hp (Ex.new hp) ⟨d, s, upd_same, hd1, hd2, hs0, hs1⟩⟩
    have h18 : CPowB 10 18 := by refine ⟨by decide, by decide +kernel⟩
    refine ⟨_, rfl, _, rfl, a, _, rfl, .inl hS, _, _, rfl, rfl, _, rfl, ?_⟩
    refine ite2 (fun c => ?_) (fun c => ?_)
    · have c' : k < ((ns.map V.int).length : Int) := of_decide_eq_true c
      rw [List.length_map] at c'
      have hk : k.toNat < ns.length := by omega
      have hat : atI (ns.map V.int) k = some (.int ns[k.toNat]) := by
        have e : k = ((k.toNat : Nat) : Int) := by omega
        have z : atI (ns.map V.int) ((k.toNat : Nat) : Int) = some (.int ns[k.toNat]) := atI_nat (by rw [List.getElem?_map, List.getElem?_eq_getElem hk]; rfl)
        rw [← e] at z
        exact z
      refine ⟨_, rfl, _, rfl, a, _, _, _, rfl, rfl, hS, hat, _, _, rfl, rfl, h18, _, _, rfl, rfl, _, rfl, ?_⟩
      refine ite2 (fun c2 => ?_) (fun c2 => ?_)
      · have c2' : (10 : Int) ^ (18 : Int).toNat ≤ ns[k.toNat] := of_decide_eq_true c2
        refine ⟨_, rfl, _, rfl, a, _, _, _, rfl, rfl, hS, hat, _, _, rfl, rfl, h18, _, _, rfl, rfl, _, rfl, _, rfl, ?_⟩
        have hb2 := abs_of_bits (hb _ (List.getElem_mem hk))
        have e18 : (10 : Int) ^ (18 : Int).toNat = 1000000000000000000 := by decide
        rw [e18] at c2' ⊢
        refine fin _ (by omega) ?_
        have e : (2 : Nat) ^ 1048576 ≤ 2 ^ 1100000 := Nat.pow_le_pow_right (by decide) (by decide)
        generalize (2 : Nat) ^ 1048576 = M at *
        generalize (2 : Nat) ^ 1100000 = N at *
        omega
      · exact ⟨_, rfl, _, rfl, fin 0 (by decide) (Nat.two_pow_pos _)⟩
    · exact ⟨_, rfl, _, rfl, fin 0 (by decide) (Nat.two_pow_pos _)⟩
end
end Sk

namespace Sk
open PySem PySem.Spec PyProof.Rows L2 Evl
section
variable {P : Program} {w : World} {K : PySem.W.Frag} {mg : Str → Option Value} {base : Heap} {f g : Addr} {fd gd : FuncData}
theorem atI0 {a b : V} : atI [a, b] 0 = some a := atI_nat (j := 0) rfl
theorem atI1 {a b : V} : atI [a, b] 1 = some b := atI_nat (j := 1) rfl
theorem small31 {x : Int} (h0 : 0 ≤ x) (h : x < 2147483648) : x.natAbs < 2 ^ 31 := by
  have e : (2 : Nat) ^ 31 = 2147483648 := by decide
  rw [e]; omega
theorem powB_small {x : Int} (h0 : 0 ≤ x) (h : x < 2147483648) {j : Int} (j0 : 0 ≤ j) (j1 : j ≤ 10) : CPowB x j := by
  refine ⟨j0, ?_⟩
  have h7 := bits_of (small31 h0 h) (by decide)
  have e : ((2 : Int) ^ 27) = 134217728 := by decide
  rw [e]
  have h8 : (Builtin.Int.intBits x : Int) ≤ 31 := by omega
  have h9 : (0 : Int) ≤ (Builtin.Int.intBits x : Int) := by omega
  calc (Builtin.Int.intBits x : Int) * j ≤ 31 * 10 := Int.mul_le_mul h8 j1 j0 (by decide)
    _ ≤ 134217728 := by decide
theorem ok_draw {k : Nat} (F : Fun K "_law_draw" "_law_draw" sDraw f fd) (B : Blt mg) : FnOk P w K mg base CX0 (k + 1) f fd ["stream", "size"] spDraw := by
  refine F.ok scDraw (fun vs H Q E h => ?_) (fun cdv A outer s H vs Q E hr h => ?_)
  · obtain ⟨a, n, rfl, _⟩ := h
    rfl
  obtain ⟨st, n, rfl, hst, hn, hn9, q⟩ := h
  obtain ⟨d, sd, hs, hd0, hd1, hs0, hs1⟩ := hst
  have nd := scDraw.nd
  refine ⟨_, pss_cons (ps_if (pt_cmpR op_ge (pe_ix ix_list (pv 0) pe_int (fun _ _ => rfl)) (pv 1) (nomark _))
      (pss_cons (ps_set (i := 2) nd rfl (Or.inl rfl) (pe_op op_mod (pe_callTy call_int1 rfl B.int bt_int (pa_cons (pe_ix ix_list (pv 0) pe_int (fun _ _ => rfl)) pa_nil)) (pv 1)))
      (pss_cons (ps_asg (pe_op op_fdivW (pe_ix ix_list (pv 0) pe_int (fun _ _ => rfl)) (pv 1)) (pg_sub (pv 0) pe_int set_list))
      (pss_one (ps_ret (pv 2))))) pss_nil)
    (pss_cons (ps_asg (pe_op op_mod (pe_callTy call_int1 rfl B.int bt_int (pa_cons (pe_op op_add (pe_op op_mulW (pe_ix ix_list (pv 0) pe_int (fun _ _ => rfl)) pe_int) pe_int) pa_nil)) pe_int) (pg_sub (pv 0) pe_int set_list))
    (pss_cons (ps_set (i := 3) nd rfl (Or.inl rfl) (pe_op op_mod (pe_callTy call_int1 rfl B.int bt_int (pa_cons (pe_op op_powB (pe_callTy call_int1 rfl B.int bt_int (pa_cons (pe_ix ix_list (pv 0) pe_int (fun _ _ => rfl)) pa_nil)) pe_int) pa_nil)) pe_int))
    (pss_one (ps_ret (pe_op op_mod (pe_callTy call_int1 rfl B.int bt_int (pa_cons (pe_op op_fdiv (pe_op op_mod (pe_callTy call_int1 rfl B.int bt_int (pa_cons (pe_op op_powB (pv 3) pe_int) pa_nil)) pe_int) pe_int) pa_nil)) (pv 1)))))), ?_⟩
  have hL : SqL K H st [.int d, .int sd] := SqL.of hs
  refine ⟨_, rfl, st, _, 0, _, rfl, rfl, hL, atI0, _, rfl, _, _, rfl, rfl, _, rfl, ?_⟩
  have n31 : n.natAbs < 2 ^ 31 := small31 (by omega) (by omega)
  have up : ∀ a b : Int, 0 ≤ a → a.natAbs < 2 ^ 1100000 → 0 ≤ b → b < 2147483648 → Aft st H (upd H st (.lst [.int a, .int b])) := fun a b a0 a1 b0 b1 =>
    ⟨gr_upd, a, b, upd_same, a0, a1, b0, by have e : ((2 : Int) ^ 31) = 2147483648 := by decide
                                            rw [e]; exact b1⟩
  have e31 : ((2 : Int) ^ 31) = 2147483648 := by decide
  rw [e31] at hs1
  refine ite2 (fun c => ?_) (fun c => ?_)
  · have c' : n ≤ d := of_decide_eq_true c
    refine ⟨_, rfl, st, _, 0, _, rfl, rfl, hL, atI0, .inl ⟨_, rfl, _, rfl, _, _, rfl, rfl, (by omega : (0 : Int) < n), ?_⟩⟩
    refine ⟨_, rfl, st, _, 0, _, rfl, rfl, hL, atI0, _, rfl, _, _, rfl, rfl, wide_div (by omega) n31 (by decide) (by decide), ?_⟩
    refine ⟨_, rfl, st, _, 0, 0, rfl, rfl, hs, rfl, ?_⟩
    refine ⟨_, rfl, q _ _ (Int.emod_nonneg _ (by omega)) (Int.emod_lt_of_pos _ (by omega)) (up _ _ (Int.ediv_nonneg hd0 (by omega)) ?_ hs0 hs1)⟩
    refine Nat.lt_of_le_of_lt ?_ hd1
    have z0 : 0 ≤ d / n := Int.ediv_nonneg hd0 (by omega)
    have z1 : d / n ≤ d := Int.ediv_le_self n hd0
    omega
  · refine ⟨_, rfl, st, _, 1, _, rfl, rfl, hL, atI1, _, _, rfl, rfl, wide_mul (small31 hs0 hs1) (show (48271 : Int).natAbs < 2 ^ 16 by decide) (by decide) (by decide) (by decide), _, _, rfl, rfl, .inl ⟨_, rfl, _, _, rfl, rfl, (by decide : (0 : Int) < 2147483647), ?_⟩⟩
    refine ⟨_, rfl, st, _, 1, 1, rfl, rfl, hs, rfl, ?_⟩
    dsimp only [List.set]
    generalize hz : (sd * 48271 + 12345) % 2147483647 = z
    have z0 : 0 ≤ z := by rw [← hz]; exact Int.emod_nonneg _ (by decide)
    have z1 : z < 2147483648 := by
      have := Int.emod_lt_of_pos (sd * 48271 + 12345) (show (0 : Int) < 2147483647 by decide)
      omega
    have A1 := up d z hd0 hd1 z0 z1
    have hL2 : SqL K (upd H st (.lst [.int d, .int z])) st [.int d, .int z] := SqL.of upd_same
    refine ⟨_, rfl, st, _, 1, _, rfl, rfl, hL2, atI1, .inl ⟨_, rfl, _, _, rfl, rfl, powB_small z0 z1 (by decide) (by decide), .inl ⟨_, rfl, _, _, rfl, rfl, (by decide : (0 : Int) < 2147483629), ?_⟩⟩⟩
    dsimp only
    generalize hy : z ^ (3 : Int).toNat % 2147483629 = y
    have y0 : 0 ≤ y := by rw [← hy]; exact Int.emod_nonneg _ (by decide)
    have y1 : y < 2147483648 := by
      have := Int.emod_lt_of_pos (z ^ (3 : Int).toNat) (show (0 : Int) < 2147483629 by decide)
      omega
    refine ⟨_, rfl, _, _, rfl, rfl, powB_small y0 y1 (by decide) (by decide), .inl ⟨_, rfl, _, _, rfl, rfl, (by decide : (0 : Int) < 1000000007), _, _, rfl, rfl, ⟨by decide, by decide⟩, .inl ⟨_, rfl, _, rfl, _, _, rfl, rfl, (by omega : (0 : Int) < n), ?_⟩⟩⟩
    exact q _ _ (Int.emod_nonneg _ (by omega)) (Int.emod_lt_of_pos _ (by omega)) A1
/-- len of a list, a tuple, a text -/
theorem call_lenAny {X : Cx} : CallR X (.builtin "len") (fun xs H Q => (∃ p ys, xs = [.ref p] ∧ (SqL X.K H p ys ∨ SqT X.K H p ys) ∧ Q (.int ys.length) H) ∨ ∃ z, xs = [.str z] ∧ z.length ≤ sizeLine ∧ Q (.int z.length) H) := call_len_seq.or call_len_str
theorem ok_choose {k : Nat} {gd : FuncData} (F : Fun K "_law_choose" "_law_choose" sChoose f fd) (G : FnOk P w K mg base CX0 k g gd ["stream", "size"] spDraw) (bG : Binds K gd ["stream", "size"] []) (kG : PySem.W.keepIn K (.ref g) = true)
    (mG : mg "_law_draw" = some (.ref g)) (ml : mg "len" = none) : FnOk P w K mg base CX0 (k + 1) f fd ["stream", "items"] (spChoose K) := by
  refine F.ok scChoose (fun vs H Q E h => ?_) (fun cdv A outer s H vs Q E hr h => ?_)
  · obtain ⟨a, n, _, rfl, _⟩ := h
    rfl
  obtain ⟨st, x, Pv, rfl, hst, hx, q⟩ := h
  refine ⟨_, pss_one (ps_ret (pe_ix ix_seq (pv 1) (pe_call G hr rfl mG kG bG .nil pass0 (pa_cons (pv 0) (pa_cons (pe_callB call_lenAny rfl ml PySem.boot_len (pa_cons (pv 1) pa_nil)) pa_nil))) (fun _ _ => rfl))), ?_⟩
  refine ⟨_, rfl, _, rfl, _, rfl, ?_⟩
  rcases hx with ⟨a, xs, rfl, hs, hne, hl, hp⟩ | ⟨z, rfl, hne, hl, hp⟩
  · have hs' : ∀ H1, Ex (Hd st H) H1 → SqL K H1 a xs ∨ SqT K H1 a xs := fun H1 e => hs.elim (fun h => .inl (ex_l e h)) fun h => .inr (ex_t e h)
    have h1 : 1 ≤ xs.length := by cases xs with
      | nil => exact absurd rfl hne
      | cons _ _ => simp
    refine .inl ⟨a, xs, rfl, hs' _ hd_le, st, _, rfl, hst, by omega, by omega, fun i H1 i0 i1 A1 => ?_⟩
    have hi : i.toNat < xs.length := by omega
    have hat : atI xs i = some xs[i.toNat] := by
      have e : i = ((i.toNat : Nat) : Int) := by omega
      have z : atI xs ((i.toNat : Nat) : Int) = some xs[i.toNat] := atI_nat (List.getElem?_eq_getElem hi)
      rw [← e] at z
      exact z
    have fin := q _ H1 (hp _ (List.getElem_mem hi)) A1
    rcases hs' H1 (Ex.trans A1.gr hd_le) with h | h
    · exact .inl ⟨a, xs, i, _, rfl, rfl, h, hat, fin⟩
    · exact .inr (.inl ⟨a, xs, i, _, rfl, rfl, h, hat, fin⟩)
  · have e0 : z.length = z.cps.toList.length := by simp [Str.length]
    have h1 : 1 ≤ z.cps.toList.length := by
      cases h : z.cps.toList with
      | nil => exact absurd h hne
      | cons _ _ => simp
    refine .inr ⟨z, rfl, sz_of hl, st, _, rfl, hst, by omega, by omega, fun i H1 i0 i1 A1 => ?_⟩
    have hi : i.toNat < z.cps.toList.length := by omega
    have hat : atI z.cps.toList i = some z.cps.toList[i.toNat] := by
      have e : i = ((i.toNat : Nat) : Int) := by omega
      have z : atI z.cps.toList ((i.toNat : Nat) : Int) = some z.cps.toList[i.toNat] := atI_nat (List.getElem?_eq_getElem hi)
      rw [← e] at z
      exact z
    exact .inr (.inr ⟨z, i, _, rfl, rfl, sz_of hl, hat, q _ H1 (hp _ (List.getElem_mem hi)) A1⟩)
end
end Sk

/-! Steps as the program has them. -/
namespace Sk
open PySem PySem.Spec PyProof.Rows L2 Evl
theorem tup_inv {H : Hp} {v : V} {xs : List PyData} (h : Dq H v (.tuple xs)) : ∃ a vs, v = .ref a ∧ H a = some (.tup vs) ∧ DqAll H vs xs := by
  cases h with
  | tup e r => exact ⟨_, _, rfl, e, r⟩
theorem all_cons {H : Hp} {vs : List V} {d : PyData} {ds : List PyData} (h : DqAll H vs (d :: ds)) : ∃ v r, vs = v :: r ∧ Dq H v d ∧ DqAll H r ds := by
  cases h with
  | cons x r => exact ⟨_, _, rfl, x, r⟩
theorem all_nil {H : Hp} {vs : List V} (h : DqAll H vs []) : vs = [] := by cases h; rfl
theorem str_inv {H : Hp} {v : V} {x : Str} (h : Dq H v (.str x)) : v = .str x := by cases h; rfl
/-- a text of signs -/
def tx (cs : List Nat) : Str := ⟨cs.toArray⟩
theorem tx_len (cs : List Nat) : (tx cs).length = cs.length := by simp [tx, Str.length]
theorem tx_inj {a b : List Nat} (h : tx a = tx b) : a = b := by
  have := congrArg (fun z : Str => z.cps.toList) h
  simpa [tx] using this
theorem tx_of (z : Str) : tx z.cps.toList = z := by cases z; simp [tx]
theorem join_tx (cs : List Nat) : Str.join Str.empty (cs.map one) = tx cs := by
  rw [← tx_of (Str.join Str.empty (cs.map one)), join_one]
theorem one_len (c : Nat) : (one c).length = 1 := rfl
theorem one_inj {a b : Nat} (h : one a = one b) : a = b := by
  have := congrArg (fun z : Str => z.cps.toList) h
  simpa [one] using this
def edD : Ed Nat → PyData
  | .keep c => .tuple [.str "keep", .str (one c)]
  | .put c => .tuple [.str "put", .str (one c)]
  | .drop c => .tuple [.str "drop", .str (one c)]
  | .swap a b => .tuple [.str "swap", .str (one a), .str (one b)]
def edV : Ed Nat → List V
  | .keep c => [.str "keep", .str (one c)]
  | .put c => [.str "put", .str (one c)]
  | .drop c => [.str "drop", .str (one c)]
  | .swap a b => [.str "swap", .str (one a), .str (one b)]
theorem ed_inv {H : Hp} {v : V} {e : Ed Nat} (h : Dq H v (edD e)) : ∃ a, v = .ref a ∧ H a = some (.tup (edV e)) := by
  cases e
  case swap x y =>
    obtain ⟨a, vs, rfl, ha, r⟩ := tup_inv h
    obtain ⟨v1, r1, rfl, h1, r⟩ := all_cons r
    obtain ⟨v2, r2, rfl, h2, r⟩ := all_cons r
    obtain ⟨v3, r3, rfl, h3, r⟩ := all_cons r
    cases all_nil r
    cases str_inv h1; cases str_inv h2; cases str_inv h3
    exact ⟨a, rfl, ha⟩
  all_goals
    obtain ⟨a, vs, rfl, ha, r⟩ := tup_inv h
    obtain ⟨v1, r1, rfl, h1, r⟩ := all_cons r
    obtain ⟨v2, r2, rfl, h2, r⟩ := all_cons r
    cases all_nil r
    cases str_inv h1; cases str_inv h2
    exact ⟨a, rfl, ha⟩
theorem ed_of {H : Hp} {a : Addr} {e : Ed Nat} (h : H a = some (.tup (edV e))) : Dq H (.ref a) (edD e) := by
  cases e <;> exact .tup h (by repeat (first | exact .nil | refine .cons (.str _) ?_))
theorem scSign : FnScope ["thing"] ["thing"] (defScope sSign) := ⟨rfl, rfl, rfl, by decide +kernel, rfl, by decide +kernel, by decide +kernel⟩
theorem scStep : FnScope ["thing"] ["thing"] (defScope sStep) := ⟨rfl, rfl, rfl, by decide +kernel, rfl, by decide +kernel, by decide +kernel⟩
theorem scAre : FnScope ["thing", "step"] ["thing"] (defScope sAre) := ⟨rfl, rfl, rfl, by decide +kernel, rfl, by decide +kernel, by decide +kernel⟩
def spSign : Sp := fun vs H Q _ => ∃ c : Nat, vs = [.str (one c)] ∧ Q (.bl true) H
def spStep : Sp := fun vs H Q _ => ∃ (v : V) (e : Ed Nat), vs = [v] ∧ Dq H v (edD e) ∧ Ed.ok e ∧ ∀ H', Ex H H' → Q (.bl true) H'
def spAre : Sp := fun vs H Q _ => ∃ (a : Addr) (ws : List V) (es : List (Ed Nat)), vs = [.ref a] ∧ H a = some (.lst ws) ∧ DqAll H ws (es.map edD) ∧ (∀ e ∈ es, Ed.ok e) ∧ ∀ H', Ex H H' → Q (.bl true) H'
section
variable {P : Program} {w : World} {K : PySem.W.Frag} {mg : Str → Option Value} {base : Heap} {f g : Addr} {fd gd : FuncData}
theorem ok_sign {k : Nat} (F : Fun K "is_sign" "is_sign" sSign f fd) (B : Blt mg) : FnOk P w K mg base CX0 (k + 1) f fd ["thing"] spSign := by
  refine F.ok scSign (fun vs H Q E h => ?_) (fun cdv A outer s H vs Q E hr h => ?_)
  · obtain ⟨_, rfl, _⟩ := h
    rfl
  obtain ⟨c, rfl, q⟩ := h
  have nd := scSign.nd
  refine ⟨_, pss_one (ps_ret (pe_and (pe_callB call_isD rfl B.isi bt_isi (pa_cons (pv 0) (pa_cons (pe_bltn (v := .ty "str") rfl B.str bt_str rfl) pa_nil)))
    (pe_one (pe_cmpR op_eq (pe_callB call_len_str rfl B.len PySem.boot_len (pa_cons (pv 0) pa_nil)) pe_int (nomark _))))), ?_⟩
  refine ⟨_, rfl, _, _, _, _, rfl, .str _, kss, true, rfl, ?_⟩
  refine (if_pos rfl).mpr ?_
  exact ⟨_, rfl, _, rfl, line_le (by rw [one_len]; decide), rfl, q⟩
theorem ok_step (F : Fun K "is_step" "is_step" sStep f fd) (B : Blt mg) (B2 : Blt2 mg) (Sg : Lt P w K mg base g gd "is_sign" ["thing"] 1 spSign) : FnOk P w K mg base CX0 2 f fd ["thing"] spStep := by
  refine F.ok scStep (fun vs H Q E h => ?_) (fun cdv A outer s H vs Q E hr h => ?_)
  · obtain ⟨_, _, rfl, _⟩ := h
    rfl
  obtain ⟨v, e, rfl, hd, oe, q⟩ := h
  have nd := scStep.nd
  have hr1 : Room 1 _ := hr
  refine ⟨_, pss_cons (ps_if (PW.pt (pw_or (pt_not (pt_val (pe_callB call_isD rfl B.isi bt_isi (pa_cons (pv 0) (pa_cons (pe_bltn (v := .ty "tuple") rfl B2.tuple bt_tuple rfl) pa_nil)))))
      (pw_or (pt_cmpR op_lt (pe_callB call_len_seq rfl B.len PySem.boot_len (pa_cons (pv 0) pa_nil)) pe_int (nomark _)) (pw_or1 (pt_not (pt_val (pe_callB call_isD rfl B.isi bt_isi (pa_cons (pe_ix ix_tup (pv 0) pe_int (fun _ _ => rfl)) (pa_cons (pe_bltn (v := .ty "str") rfl B.str bt_str rfl) pa_nil))))))))) (pss_one (ps_ret pe_bl)) pss_nil)
    (pss_cons (ps_if (pt_cmpR op_eq (pe_ix ix_tup (pv 0) pe_int (fun _ _ => rfl)) pe_str (nomark _)) (pss_one (ps_ret (pe_and (pe_cmpR op_eq (pe_callB call_len_seq rfl B.len PySem.boot_len (pa_cons (pv 0) pa_nil)) pe_int (nomark _)) (pe_and (pe_call Sg.g hr1 rfl Sg.m Sg.k Sg.b .nil pass0 (pa_cons (pe_ix ix_tup (pv 0) pe_int (fun _ _ => rfl)) pa_nil)) (pe_and (pe_call Sg.g hr1 rfl Sg.m Sg.k Sg.b .nil pass0 (pa_cons (pe_ix ix_tup (pv 0) pe_int (fun _ _ => rfl)) pa_nil)) (pe_one (pe_cmpR op_ne (pe_ix ix_tup (pv 0) pe_int (fun _ _ => rfl)) (pe_ix ix_tup (pv 0) pe_int (fun _ _ => rfl)) (nomark _)))))))) pss_nil)
    (pss_one (ps_ret (pe_and (pe_cmpR op_in_seq (pe_ix ix_tup (pv 0) pe_int (fun _ _ => rfl)) (pe_tup (pa_cons pe_str (pa_cons pe_str (pa_cons pe_str pa_nil)))) (by with_unfolding_all rfl)) (pe_and (pe_cmpR op_eq (pe_callB call_len_seq rfl B.len PySem.boot_len (pa_cons (pv 0) pa_nil)) pe_int (nomark _)) (pe_one (pe_call Sg.g hr1 rfl Sg.m Sg.k Sg.b .nil pass0 (pa_cons (pe_ix ix_tup (pv 0) pe_int (fun _ _ => rfl)) pa_nil)))))))), ?_⟩
  obtain ⟨a, rfl, ha⟩ := ed_inv hd
  have hT : SqT K H a (edV e) := SqT.of ha
  refine ⟨_, rfl, _, _, _, _, rfl, hd, (by cases e <;> exact ktt : kitB (tyD (edD e)) "tuple" = some true), true, rfl, ?_⟩
  refine iteF ?_
  cases e
  case swap x y =>
    refine ⟨_, rfl, a, _, rfl, .inr hT, _, _, rfl, rfl, _, rfl, iteF ?_⟩
    refine ⟨_, rfl, a, _, _, _, rfl, rfl, hT, atI_nat (j := 0) rfl, _, _, _, _, rfl, .str _, kss, true, rfl, iteF ?_⟩
    refine ⟨_, rfl, a, _, _, _, rfl, rfl, hT, atI_nat (j := 0) rfl, rfl, _, rfl, iteT ?_⟩
    refine ⟨_, rfl, a, _, rfl, .inr hT, rfl, _, rfl, iteT ?_⟩
    refine ⟨_, rfl, a, _, _, _, rfl, rfl, hT, atI_nat (j := 1) rfl, x, rfl, _, rfl, iteT ?_⟩
    refine ⟨_, rfl, a, _, _, _, rfl, rfl, hT, atI_nat (j := 2) rfl, y, rfl, _, rfl, iteT ?_⟩
    refine ⟨_, rfl, a, _, _, _, rfl, rfl, hT, atI_nat (j := 1) rfl, _, rfl, a, _, _, _, rfl, rfl, hT, atI_nat (j := 2) rfl, rfl, ?_⟩
    have n : ¬ (V.str (one x) = V.str (one y)) := fun z => oe (one_inj (by injection z))
    rw [decide_eq_false n]
    exact q H (Ex.refl _)
  all_goals
    refine ⟨_, rfl, a, _, rfl, .inr hT, _, _, rfl, rfl, _, rfl, iteF ?_⟩
    refine ⟨_, rfl, a, _, _, _, rfl, rfl, hT, atI_nat (j := 0) rfl, _, _, _, _, rfl, .str _, kss, true, rfl, iteF ?_⟩
    refine ⟨_, rfl, a, _, _, _, rfl, rfl, hT, atI_nat (j := 0) rfl, rfl, _, rfl, iteF ?_⟩
    refine ⟨_, rfl, a, _, _, _, rfl, rfl, hT, atI_nat (j := 0) rfl, line_le (by show 3 ≤ 16000000; decide), fun p np => ?_⟩
    have x1 := Ex.new (o := HO.tup [.str "keep", .str "put", .str "drop"]) np
    have hT1 : SqT K (upd H p (HO.tup [.str "keep", .str "put", .str "drop"])) a _ := SqT.of (x1 _ _ ha)
    refine ⟨p, _, rfl, .inr (SqT.of upd_same), rfl, rfl, _, rfl, iteT ?_⟩
    refine ⟨_, rfl, a, _, rfl, .inr hT1, rfl, _, rfl, iteT ?_⟩
    exact ⟨_, rfl, a, _, _, _, rfl, rfl, hT1, atI_nat (j := 1) rfl, _, rfl, q _ x1⟩
theorem kit2 {K : PySem.W.Frag} {ty a b : String} {x y : Bool} (h1 : kitB ty a = some x) (h2 : kitB ty b = some y) : PySem.W.kitAny K (.type ty) [.type a, .type b] = some (x || y) := by
  cases x with
  | true => exact kitAny_cons (kit_ty h1) (fun z => nomatch z) fun _ => rfl
  | false =>
    refine kitAny_cons (kit_ty h1) (fun _ => ?_) fun z => nomatch z
    cases y with
    | true => exact kitAny_cons (kit_ty h2) (fun z => nomatch z) fun _ => rfl
    | false => exact kitAny_cons (kit_ty h2) (fun _ => kitAny_nil) fun z => nomatch z
theorem nle' {n : Nat} (h : n ≤ 1000) : n ≤ sizeLine := line_le (Nat.le_trans h (by decide))
theorem ok_are (F : Fun K "are_steps" "are_steps" sAre f fd) (B : Blt mg) (B2 : Blt2 mg) (St : Lt P w K mg base g gd "is_step" ["thing"] 2 spStep) : FnOk P w K mg base CX0 3 f fd ["thing"] spAre := by
  refine F.ok scAre (fun vs H Q E h => ?_) (fun cdv A outer s H vs Q E hr h => ?_)
  · obtain ⟨_, _, _, rfl, _⟩ := h
    rfl
  obtain ⟨a, ws, es, rfl, ha, hd, oe, q⟩ := h
  have nd := scAre.nd
  have hr2 : Room 2 _ := hr
  refine ⟨_, pss_cons (ps_if (pt_not (pt_val (pe_callB call_isiT rfl B.isi bt_isi (pa_cons (pv 0) (pa_cons (pe_tup (pa_cons (pe_bltn (v := .ty "list") rfl B.list bt_list rfl) (pa_cons (pe_bltn (v := .ty "tuple") rfl B2.tuple bt_tuple rfl) pa_nil))) pa_nil))))) (pss_one (ps_ret pe_bl)) pss_nil)
    (pss_one (ps_ret (pe_cmpR (op_eqD hr.units) (pe_lc (own := [("step", 1)]) (g := gName 1) rfl nd (pi_list (pv 0)) (blkOk_by (N := ["thing", "step"]) (sc := defScope sAre) (by decide +kernel)) (fun _ _ _ _ _ => pg_name (i := 1) nd rfl (Or.inl rfl))
      (fun _ _ _ _ _ => pts_one (pt_not (pt_val (pe_call St.g hr2 rfl St.m St.k St.b .nil pass0 (pa_cons (pv 1) pa_nil))))) (fun _ _ _ _ _ => pv 1)) (pe_lst pa_nil) (nomark _)))), ?_⟩
  refine ⟨_, rfl, nle' (by show 2 ≤ 1000; decide), fun T hT => ⟨_, T, _, _, _, true, rfl, upd_same, .cons (.ty _) (.cons (.ty _) .nil), .base (.lst ((Ex.new hT) _ _ ha)), kit2 kll klt, _, rfl, ?_⟩⟩
  have xT := Ex.new (o := HO.tup [.ty "list", .ty "tuple"]) hT
  generalize upd H T (HO.tup [.ty "list", .ty "tuple"]) = H1 at xT ⊢
  refine ⟨_, rfl, a, rfl, ⟨_, SqL.of (xT _ _ ha)⟩, fun D hD => ?_⟩
  refine lc_list (xs := ws) (fun i H' => Ex H1 H' ∧ H' D = some (.lst [])) ⟨Ex.new hD, upd_same⟩ (fun i H' _ p => SqL.of (p.1 _ _ (xT _ _ ha))) (fun i x H' hx p => ?_) (fun H' p => ?_)
  · obtain ⟨p1, p2⟩ := p
    obtain ⟨d, hdd, hq⟩ := hd.get hx
    rw [List.getElem?_map] at hdd
    obtain ⟨e, he, rfl⟩ := Option.map_eq_some_iff.mp hdd
    refine ⟨rfl, _, rfl, _, e, rfl, hq.mono (xT.trans p1), oe e (List.mem_of_getElem? he), fun H2 x2 => ⟨_, rfl, ?_⟩⟩
    exact iteF ⟨p1.trans x2, x2 _ _ p2⟩
  · obtain ⟨p1, p2⟩ := p
    refine ⟨nle' (by show 0 ≤ 1000; decide), fun l hl => ⟨.list [], .list [], .lst (SqL.of ((Ex.new hl) _ _ p2)) .nil, .lst (SqL.of upd_same) .nil, rfl, rfl, ?_⟩⟩
    exact q _ (xT.trans (p1.trans (Ex.new hl)))
end
end Sk

/-! Which data are steps: is_sign, is_step, are_steps of any data. -/
namespace Sk
open PySem PySem.Spec PyProof.Rows L2 Evl
def sgD : PyData → Bool
  | .str x => decide (x.length = 1)
  | _ => false
def stD : PyData → Bool
  | .tuple [.str w, a] => decide (w = "keep" ∨ w = "put" ∨ w = "drop") && sgD a
  | .tuple [.str w, .str a, .str b] => decide (w = "swap") && (sgD (.str a) && (sgD (.str b) && decide (a ≠ b)))
  | _ => false
/-- texts of no great length, at the top and one below -/
def Ft (d : PyData) : Prop := ∀ x, d = .str x → x.length ≤ 1000
def Fts (d : PyData) : Prop := ∀ ds, d = .tuple ds → ∀ e ∈ ds, Ft e
def spSignB : Sp := fun vs H Q _ => ∃ (v : V) (d : PyData), vs = [v] ∧ Dq H v d ∧ Ft d ∧ Q (.bl (sgD d)) H
def spStepB : Sp := fun vs H Q _ => ∃ (v : V) (d : PyData), vs = [v] ∧ Dq H v d ∧ Fts d ∧ ∀ H', Ex H H' → Q (.bl (stD d)) H'
theorem kitS (d : PyData) : ∃ b, kitB (tyD d) "str" = some b ∧ (b = true → ∃ x, d = .str x) ∧ (b = false → ∀ x, d ≠ .str x) := by
  cases d with
  | str x => exact ⟨true, kss, fun _ => ⟨x, rfl⟩, nofun⟩
  | none => exact ⟨false, by decide +kernel, nofun, fun _ => nofun⟩
  | bool b => exact ⟨false, kbs, nofun, fun _ => nofun⟩
  | int i => exact ⟨false, kis, nofun, fun _ => nofun⟩
  | list x => exact ⟨false, kls, nofun, fun _ => nofun⟩
  | tuple x => exact ⟨false, kts, nofun, fun _ => nofun⟩
  | dict x => exact ⟨false, kds, nofun, fun _ => nofun⟩
theorem kitT (d : PyData) : ∃ b, kitB (tyD d) "tuple" = some b ∧ (b = true → ∃ x, d = .tuple x) ∧ (b = false → ∀ x, d ≠ .tuple x) := by
  cases d with
  | tuple x => exact ⟨true, ktt, fun _ => ⟨x, rfl⟩, nofun⟩
  | none => exact ⟨false, by decide +kernel, nofun, fun _ => nofun⟩
  | bool b => exact ⟨false, kbt, nofun, fun _ => nofun⟩
  | int i => exact ⟨false, kit, nofun, fun _ => nofun⟩
  | list x => exact ⟨false, klt, nofun, fun _ => nofun⟩
  | str x => exact ⟨false, kst, nofun, fun _ => nofun⟩
  | dict x => exact ⟨false, kdt, nofun, fun _ => nofun⟩
theorem sgD_no {d : PyData} (h : ∀ x, d ≠ .str x) : sgD d = false := by
  cases d with
  | str x => exact absurd rfl (h x)
  | _ => rfl
section
variable {P : Program} {w : World} {K : PySem.W.Frag} {mg : Str → Option Value} {base : Heap} {f g : Addr} {fd gd : FuncData}
theorem ok_signB {k : Nat} (F : Fun K "is_sign" "is_sign" sSign f fd) (B : Blt mg) : FnOk P w K mg base CX0 (k + 1) f fd ["thing"] spSignB := by
  refine F.ok scSign (fun vs H Q E h => ?_) (fun cdv A outer s H vs Q E hr h => ?_)
  · obtain ⟨_, _, rfl, _⟩ := h
    rfl
  obtain ⟨v, d, rfl, hd, hx, q⟩ := h
  have nd := scSign.nd
  refine ⟨_, pss_one (ps_ret (pe_and (pe_callB call_isD rfl B.isi bt_isi (pa_cons (pv 0) (pa_cons (pe_bltn (v := .ty "str") rfl B.str bt_str rfl) pa_nil)))
    (pe_one (pe_cmpR op_eq (pe_callB call_len_str rfl B.len PySem.boot_len (pa_cons (pv 0) pa_nil)) pe_int (nomark _))))), ?_⟩
  obtain ⟨b, kb, h1, h2⟩ := kitS d
  refine ⟨_, rfl, _, _, _, _, rfl, hd, kb, b, rfl, ?_⟩
  cases b with
  | false =>
    rw [sgD_no (h2 rfl)] at q
    exact (if_neg (by decide)).mpr q
  | true =>
    obtain ⟨x, rfl⟩ := h1 rfl
    cases hd
    refine (if_pos rfl).mpr ⟨_, rfl, _, rfl, line_le (by have := hx x rfl; omega), rfl, ?_⟩
    have e : decide (V.int ((x.length : Nat) : Int) = V.int 1) = sgD (.str x) := by
      show _ = decide (x.length = 1)
      refine decide_eq_decide.mpr ⟨fun z => ?_, fun z => by rw [z]; rfl⟩
      injection z with z
      omega
    rw [e]
    exact q
theorem len2 (n : Nat) : decide (V.int 0 = V.int 0) = true := decide_eq_true rfl
theorem ok_stepB (F : Fun K "is_step" "is_step" sStep f fd) (B : Blt mg) (B2 : Blt2 mg) (Sg : Lt P w K mg base g gd "is_sign" ["thing"] 1 spSignB) : FnOk P w K mg base CX0 2 f fd ["thing"] spStepB := by
  refine F.ok scStep (fun vs H Q E h => ?_) (fun cdv A outer s H vs Q E hr h => ?_)
  · obtain ⟨_, _, rfl, _⟩ := h
    rfl
  obtain ⟨v, d, rfl, hd, hf, q⟩ := h
  have nd := scStep.nd
  have hr1 : Room 1 _ := hr
  refine ⟨_, pss_cons (ps_if (PW.pt (pw_or (pt_not (pt_val (pe_callB call_isD rfl B.isi bt_isi (pa_cons (pv 0) (pa_cons (pe_bltn (v := .ty "tuple") rfl B2.tuple bt_tuple rfl) pa_nil)))))
      (pw_or (pt_cmpR op_lt (pe_callB call_len_seq rfl B.len PySem.boot_len (pa_cons (pv 0) pa_nil)) pe_int (nomark _)) (pw_or1 (pt_not (pt_val (pe_callB call_isD rfl B.isi bt_isi (pa_cons (pe_ix ix_tup (pv 0) pe_int (fun _ _ => rfl)) (pa_cons (pe_bltn (v := .ty "str") rfl B.str bt_str rfl) pa_nil))))))))) (pss_one (ps_ret pe_bl)) pss_nil)
    (pss_cons (ps_if (pt_cmpR op_eq (pe_ix ix_tup (pv 0) pe_int (fun _ _ => rfl)) pe_str (nomark _)) (pss_one (ps_ret (pe_and (pe_cmpR op_eq (pe_callB call_len_seq rfl B.len PySem.boot_len (pa_cons (pv 0) pa_nil)) pe_int (nomark _)) (pe_and (pe_call Sg.g hr1 rfl Sg.m Sg.k Sg.b .nil pass0 (pa_cons (pe_ix ix_tup (pv 0) pe_int (fun _ _ => rfl)) pa_nil)) (pe_and (pe_call Sg.g hr1 rfl Sg.m Sg.k Sg.b .nil pass0 (pa_cons (pe_ix ix_tup (pv 0) pe_int (fun _ _ => rfl)) pa_nil)) (pe_one (pe_cmpR op_ne (pe_ix ix_tup (pv 0) pe_int (fun _ _ => rfl)) (pe_ix ix_tup (pv 0) pe_int (fun _ _ => rfl)) (nomark _)))))))) pss_nil)
    (pss_one (ps_ret (pe_and (pe_cmpR op_in_seq (pe_ix ix_tup (pv 0) pe_int (fun _ _ => rfl)) (pe_tup (pa_cons pe_str (pa_cons pe_str (pa_cons pe_str pa_nil)))) (by with_unfolding_all rfl)) (pe_and (pe_cmpR op_eq (pe_callB call_len_seq rfl B.len PySem.boot_len (pa_cons (pv 0) pa_nil)) pe_int (nomark _)) (pe_one (pe_call Sg.g hr1 rfl Sg.m Sg.k Sg.b .nil pass0 (pa_cons (pe_ix ix_tup (pv 0) pe_int (fun _ _ => rfl)) pa_nil)))))))), ?_⟩
  obtain ⟨b, kb, h1, h2⟩ := kitT d
  refine ⟨_, rfl, _, _, _, _, rfl, hd, kb, b, rfl, ?_⟩
  cases b with
  | false =>
    have e : stD d = false := by
      cases d with
      | tuple x => exact absurd rfl (h2 rfl x)
      | _ => rfl
    refine iteT ?_
    have := q H (Ex.refl _)
    rw [e] at this
    exact this
  | true =>
    obtain ⟨ds, rfl⟩ := h1 rfl
    obtain ⟨a, ws, rfl, ha, hw⟩ := tup_inv hd
    have hT : SqT K H a ws := SqT.of ha
    refine iteF ⟨_, rfl, a, _, rfl, .inr hT, _, _, rfl, rfl, _, rfl, ?_⟩
    match ds, hw with
    | [], hw =>
      cases all_nil hw
      exact iteT (q H (Ex.refl _))
    | [d0], hw =>
      obtain ⟨v0, r, rfl, h0, hw⟩ := all_cons hw
      cases all_nil hw
      have e : stD (.tuple [d0]) = false := by cases d0 <;> rfl
      have := q H (Ex.refl _)
      rw [e] at this
      exact iteT this
    | d0 :: d1 :: dr, hw =>
      obtain ⟨v0, r, rfl, h0, hw⟩ := all_cons hw
      obtain ⟨v1, wr, rfl, h1', hwr⟩ := all_cons hw
      have f0 : Ft d0 := hf _ rfl d0 (by simp)
      have f1 : Ft d1 := hf _ rfl d1 (by simp)
      have lw : wr.length = dr.length := hwr.length
      refine (if_neg (by simp; omega)).mpr ?_
      obtain ⟨b0, kb0, g1, g2⟩ := kitS d0
      refine ⟨_, rfl, a, _, _, _, rfl, rfl, hT, atI_nat (j := 0) rfl, _, _, _, _, rfl, h0, kb0, b0, rfl, ?_⟩
      cases b0 with
      | false =>
        have e : stD (.tuple (d0 :: d1 :: dr)) = false := by
          cases d0 with
          | str x => exact absurd rfl (g2 rfl x)
          | _ => cases dr with
            | nil => cases d1 <;> rfl
            | cons d2 dr => cases dr with
              | nil => cases d1 <;> cases d2 <;> rfl
              | cons d3 dr => cases d1 <;> cases d2 <;> rfl
        have := q H (Ex.refl _)
        rw [e] at this
        exact iteT this
      | true =>
        obtain ⟨x, rfl⟩ := g1 rfl
        cases h0
        refine iteF ⟨_, rfl, a, _, _, _, rfl, rfl, hT, atI_nat (j := 0) rfl, rfl, _, rfl, ?_⟩
        by_cases sw : x = "swap"
        · subst sw
          rw [decide_eq_true rfl]
          refine iteT ⟨_, rfl, a, _, rfl, .inr hT, rfl, ?_⟩
          match dr, hwr with
          | [], hw =>
            cases all_nil hw
            have e : stD (.tuple [.str "swap", d1]) = false := by
              have z : decide (("swap" : Str) = "keep" ∨ ("swap" : Str) = "put" ∨ ("swap" : Str) = "drop") = false := by decide +kernel
              cases d1 with
              | str y => show (decide (("swap" : Str) = "keep" ∨ ("swap" : Str) = "put" ∨ ("swap" : Str) = "drop") && sgD (.str y)) = false; rw [z]; rfl
              | _ => show (decide (("swap" : Str) = "keep" ∨ ("swap" : Str) = "put" ∨ ("swap" : Str) = "drop") && false) = false; rw [z]; rfl
            have := q H (Ex.refl _)
            rw [e] at this
            exact ⟨false, rfl, (if_neg (by decide)).mpr this⟩
          | d2 :: d3 :: dr', hw =>
            obtain ⟨v2, r2, rfl, h2', hw⟩ := all_cons hw
            obtain ⟨v3, r3, rfl, h3', hw⟩ := all_cons hw
            have e : stD (.tuple (.str "swap" :: d1 :: d2 :: d3 :: dr')) = false := by cases d1 <;> cases d2 <;> rfl
            have := q H (Ex.refl _)
            rw [e] at this
            rw [decide_eq_false (by intro z; injection z with z; simp at z; omega)]
            exact ⟨false, rfl, (if_neg (by decide)).mpr this⟩
          | [d2], hw =>
            obtain ⟨v2, r2, rfl, h2', hw⟩ := all_cons hw
            cases all_nil hw
            have f2 : Ft d2 := hf _ rfl d2 (by simp)
            refine ⟨true, rfl, iteT ⟨_, rfl, a, _, _, _, rfl, rfl, hT, atI_nat (j := 1) rfl, v1, d1, rfl, h1', f1, sgD d1, rfl, ?_⟩⟩
            by_cases s1 : sgD d1 = true
            · rw [s1]
              refine iteT ⟨_, rfl, a, _, _, _, rfl, rfl, hT, atI_nat (j := 2) rfl, v2, d2, rfl, h2', f2, sgD d2, rfl, ?_⟩
              by_cases s2 : sgD d2 = true
              · rw [s2]
                cases d1 with
                | str y1 => cases d2 with
                  | str y2 =>
                    cases h1'; cases h2'
                    refine iteT ⟨_, rfl, a, _, _, _, rfl, rfl, hT, atI_nat (j := 1) rfl, _, rfl, a, _, _, _, rfl, rfl, hT, atI_nat (j := 2) rfl, rfl, ?_⟩
                    have e : stD (.tuple [.str "swap", .str y1, .str y2]) = !decide (V.str y1 = V.str y2) := by
                      show (decide (("swap" : Str) = "swap") && (sgD (.str y1) && (sgD (.str y2) && decide (y1 ≠ y2)))) = _
                      rw [s1, s2, decide_eq_true rfl]
                      by_cases yy : y1 = y2
                      · rw [yy]; simp
                      · rw [decide_eq_true yy, decide_eq_false (fun z => yy (by injection z))]; rfl
                    have := q H (Ex.refl _)
                    rw [e] at this
                    exact this
                  | _ => cases s2
                | _ => cases s1
              · have s2' : sgD d2 = false := by simpa using s2
                rw [s2']
                have e : stD (.tuple [.str "swap", d1, d2]) = false := by
                  cases d1 with
                  | str y1 => cases d2 with
                    | str y2 =>
                      show (decide (("swap" : Str) = "swap") && (sgD (.str y1) && (sgD (.str y2) && decide (y1 ≠ y2)))) = _
                      rw [s2']; simp
                    | _ => rfl
                  | _ => cases d2 <;> rfl
                have := q H (Ex.refl _)
                rw [e] at this
                exact (if_neg (by decide)).mpr this
            · have s1' : sgD d1 = false := by simpa using s1
              rw [s1']
              have e : stD (.tuple [.str "swap", d1, d2]) = false := by
                cases d1 with
                | str y1 => cases d2 with
                  | str y2 =>
                    show (decide (("swap" : Str) = "swap") && (sgD (.str y1) && (sgD (.str y2) && decide (y1 ≠ y2)))) = _
                    rw [s1']; simp
                  | _ => rfl
                | _ => cases d2 <;> rfl
              have := q H (Ex.refl _)
              rw [e] at this
              exact (if_neg (by decide)).mpr this
        · rw [decide_eq_false (fun z => sw (by injection z))]
          refine iteF ?_
          refine ⟨_, rfl, a, _, _, _, rfl, rfl, hT, atI_nat (j := 0) rfl, line_le (by show 3 ≤ 16000000; decide), fun p np => ?_⟩
          have x1 := Ex.new (o := HO.tup [.str "keep", .str "put", .str "drop"]) np
          have hT1 : SqT K (upd H p (HO.tup [.str "keep", .str "put", .str "drop"])) a _ := SqT.of (x1 _ _ ha)
          have h1'' := h1'.mono x1
          refine ⟨p, _, rfl, .inr (SqT.of upd_same), rfl, rfl, ?_⟩
          have ei : (if false = true then !inV (.str x) [.str "keep", .str "put", .str "drop"] else inV (.str x) [.str "keep", .str "put", .str "drop"]) = decide (x = "keep" ∨ x = "put" ∨ x = "drop") := by
            rw [if_neg (by decide)]
            by_cases k1 : x = "keep"
            · subst k1; decide +kernel
            by_cases k2 : x = "put"
            · subst k2; decide +kernel
            by_cases k3 : x = "drop"
            · subst k3; decide +kernel
            rw [decide_eq_false (by simp [k1, k2, k3])]
            simp [inV, eqV, k1, k2, k3, Ne.symm k1, Ne.symm k2, Ne.symm k3]
          rw [ei]
          refine ⟨_, rfl, ?_⟩
          by_cases kk : (x = "keep" ∨ x = "put" ∨ x = "drop")
          · rw [decide_eq_true kk]
            refine iteT ⟨_, rfl, a, _, rfl, .inr hT1, rfl, ?_⟩
            match dr, hwr with
            | [], hw =>
              cases all_nil hw
              refine ⟨true, rfl, iteT ⟨_, rfl, a, _, _, _, rfl, rfl, hT1, atI_nat (j := 1) rfl, v1, d1, rfl, h1'', f1, ?_⟩⟩
              have e : stD (.tuple [.str x, d1]) = sgD d1 := by
                show (decide (x = "keep" ∨ x = "put" ∨ x = "drop") && sgD d1) = sgD d1
                rw [decide_eq_true kk]; rfl
              have := q _ x1
              rw [e] at this
              exact this
            | d2 :: dr', hw =>
              obtain ⟨v2, r2, rfl, h2', hw⟩ := all_cons hw
              have e : stD (.tuple (.str x :: d1 :: d2 :: dr')) = false := by
                cases dr' with
                | cons d3 dr => cases d1 <;> cases d2 <;> rfl
                | nil => cases d1 with
                  | str y1 => cases d2 with
                    | str y2 =>
                      show (decide (x = "swap") && (sgD (.str y1) && (sgD (.str y2) && decide (y1 ≠ y2)))) = _
                      rw [decide_eq_false sw]; rfl
                    | _ => rfl
                  | _ => cases d2 <;> rfl
              have := q _ x1
              rw [e] at this
              rw [decide_eq_false (by intro z; injection z with z; simp at z; omega)]
              exact ⟨false, rfl, (if_neg (by decide)).mpr this⟩
          · rw [decide_eq_false kk]
            have e : stD (.tuple (.str x :: d1 :: dr)) = false := by
              cases dr with
              | nil =>
                show (decide (x = "keep" ∨ x = "put" ∨ x = "drop") && sgD d1) = false
                rw [decide_eq_false kk]; rfl
              | cons d2 dr' => cases dr' with
                | cons d3 dr => cases d1 <;> cases d2 <;> rfl
                | nil => cases d1 with
                  | str y1 => cases d2 with
                    | str y2 =>
                      show (decide (x = "swap") && (sgD (.str y1) && (sgD (.str y2) && decide (y1 ≠ y2)))) = _
                      rw [decide_eq_false sw]; rfl
                    | _ => rfl
                  | _ => cases d2 <;> rfl
            have := q _ x1
            rw [e] at this
            exact (if_neg (by decide)).mpr this
end
end Sk

/-! A text times a number; x + y of an own class, in a try; either of two promises. -/
namespace Sk
open PySem PySem.Spec PyProof.Rows L2 Evl
section
variable {X : Cx}
def rMulS : R2 := fun x y H Q => ∃ (z : Str) (k : Int), x = .str z ∧ y = .int k ∧ MulOk z k ∧ Q (.str (Txt.mul z k)) H
theorem op_mulS : OpR X (binaryOp .Mult) rMulS := by
  intro pins s σ H x y v u Q I rx ry h
  obtain ⟨z, k, rfl, rfl, hk, q⟩ := h
  obtain ⟨t, rfl⟩ := rx
  obtain ⟨t', rfl⟩ := ry
  exact SB.mul hk fun t2 k2 => ⟨.str _, H, I.tok k2, ⟨_, rfl⟩, q⟩
theorem mul_mk (cs : List Nat) (k : Nat) (h : 1 ≤ k) : Txt.mul ⟨cs.toArray⟩ (k : Int) = ⟨(List.replicate k cs).flatten.toArray⟩ := by
  have fl : ∀ (n : Nat) (acc : Array Nat), (List.replicate n cs.toArray).foldl (· ++ ·) acc = acc ++ (List.replicate n cs).flatten.toArray := by
    intro n
    induction n with
    | zero => intro acc; simp
    | succ n ih =>
      intro acc
      rw [List.replicate_succ, List.foldl_cons, ih, List.replicate_succ, List.flatten_cons]
      simp [Array.append_assoc]
  unfold Txt.mul
  rw [if_neg (by omega)]
  split
  · rename_i hc
    rw [Bool.or_eq_true, beq_iff_eq, beq_iff_eq] at hc
    rcases hc with e | e
    · have : k = 1 := by omega
      subst this
      simp
    · have : cs = [] := by
        have e' : cs.toArray.size = 0 := e
        simpa using e'
      subst this
      have : (List.replicate k ([] : List Nat)).flatten = [] := by simp
      rw [this]
  · rw [Int.toNat_natCast]
    show (⟨(List.replicate k cs.toArray).foldl (· ++ ·) #[]⟩ : Str) = _
    rw [fl]
    simp
variable {CX : CXT} {n : Nat} {C g : Addr} {sp : Sp} {a b : Expr} {ta tb : TE} {pos : Pos}
theorem run_fnRT {pins : List (Addr × Obj)} {σ : L2.St} {H : Hp} {s : Shared} {Q : VK} {us : List Value} {vs : List V} {E : XK} (F : FnR X.prog X.w X.K X.mg X.base CX n g sp) (hr : Room n X.A) (hx : PassesAt CX X σ E) (I : Inv X pins σ H s) (r : Vals vs us) (h : sp vs H Q E) :
    codeAny (model X.prog X.w) X.A (.call (.ref g) ⟨us, []⟩) (fun r s' => match r with | .ok (.ret v) => EP X pins σ Q v s' | .ok _ => False | .error e => X.xe e s') s := by
  refine codeAny_mono (F X.A X.stack s H us vs Q E hr I.env0 r h) fun r s' hq => ?_
  cases r with
  | error e => exact hx pins H s e s' I hq
  | ok fl =>
    cases fl with
    | ret u => exact I.after hq
    | next => exact False.elim hq
    | brk => exact False.elim hq
    | cont => exact False.elim hq
/-- x + y of an own class, what is raised wished for at the slots -/
def tBinS (C : Addr) (sp : Sp) (E : L2.St → XK) (ta tb : TE) : TE := fun σ H Q => ta σ H fun x H1 => tb σ H1 fun y H2 => rBinI C sp (E σ) x y H2 Q
theorem pe_binS {op : Operator} {E : L2.St → XK} (hc : PySem.W.selfFirst X.K C = true) (hs : PySem.W.findIn X.K (.ref C) (PySem.dunder op.info.2) = some (some (.ref g))) (hf : PySem.W.isFn X.K (.ref g) = true) (F : FnR X.prog X.w X.K X.mg X.base CX n g sp)
    (hr : Room n X.A) (hx : ∀ σ, PassesAt CX X σ (E σ)) (ha : PE X a ta) (hb : PE X b tb) : PE X (.BinOp a op b pos) (tBinS C sp E ta tb) := by
  refine ⟨fun pins s σ H Q I h => wpAny_BinOp (binT ha hb I h fun v u s2 x y H2 I2 rx ry q => ?_)⟩
  obtain ⟨p, r, dx, dy, fs, gs, rfl, rfl, h1, h2, q⟩ := q
  cases (show v = Value.ref p from rx)
  cases (show u = Value.ref r from ry)
  obtain ⟨ox, od, J⟩ := ins_at I2 h1
  obtain ⟨oy, od', J'⟩ := ins_at I2 h2
  obtain ⟨m, hF⟩ := I2.fr
  refine PySem.W.binop_K hF I2.ok.mod.kin J J'.type hc hs hf ?_
  refine wpAny_mono (wpAny_call (run_fnRT (us := [.ref p, .ref r]) (vs := [.ref p, .ref r]) F hr (hx σ) I2 (.cons rfl (.cons rfl .nil)) q)) (fun w s' z => ?_) fun _ _ x => x
  obtain ⟨z', H', I', rz, qz⟩ := z
  exact SlX.cmpback rz ⟨z', H', I', rz, qz⟩
end
theorem fn_or {P : Program} {w : World} {K : PySem.W.Frag} {mg : Str → Option Value} {base : Heap} {CX : CXT} {k : Nat} {f : Addr} {fd : FuncData} {ps : List Str} {sp sp' : Sp} (F : FnOk P w K mg base CX k f fd ps sp) (G : FnOk P w K mg base CX k f fd ps sp') :
    FnOk P w K mg base CX k f fd ps (fun vs H Q E => sp vs H Q E ∨ sp' vs H Q E) :=
  ⟨fun vs H Q E q => q.elim (F.len vs H Q E) (G.len vs H Q E), fun A outer s H args us vs Q E hr he hb hv hs => hs.elim (F.run A outer s H args us vs Q E hr he hb hv) (G.run A outer s H args us vs Q E hr he hb hv)⟩
end Sk

/-! The dict {None: 0}; list(d.values()). -/
namespace Sk
open PySem PySem.Spec PyProof.Rows L2 Evl
def nEn (t : Nat) : DictEntry := ⟨reduceHash 0xFCA86420, .none, .int 0 t⟩
def NDx (a : Addr) (o : Obj) (h : Heap) : Prop := h.get? a = some o ∧ o.ExactDict ∧ (∃ ep t : Nat, o.data = .dict #[nEn t] ep) ∧ (a == sysModules) = false
def NoneD (a : Addr) (o : Obj) : HO := .ext (NDx a o)
theorem noneD_ok {P : Program} {w : World} {H : Hp} {h : Heap} {a : Addr} {o : Obj} (x : NDx a o h) : ObjOk P w H h a (NoneD a o) :=
  ⟨x, ⟨o, x.1⟩, fun _ _ q k => ⟨k o q.1, q.2⟩⟩
theorem one_pair {P : Program} {w : World} {es : Array DictEntry} {v : Value} (p : Pairs (noneKind P w) es.toList [(none, v)]) (k : KeysOf (noneKind P w) es) : es = #[⟨reduceHash 0xFCA86420, .none, v⟩] := by
  obtain ⟨l⟩ := es
  have p' : Pairs (noneKind P w) l [(none, v)] := p
  cases p' with
  | cons h1 h2 h3 =>
    cases h3
    rename_i e
    obtain ⟨hs, ky, vl⟩ := e
    have e1 : ky = .none := nk_none (show nkIs none ky = true from h1)
    have e2 : vl = v := h2
    subst e1 e2
    obtain ⟨k, hk, hh⟩ := k ⟨hs, .none, vl⟩ (by simp)
    cases k with
    | some k => exact absurd (show keyIs k .none = true from hk) (keyIs_none k)
    | none =>
      have e3 : hs = reduceHash 0xFCA86420 := hh
      subst e3
      rfl
section
variable {X : Cx} {pins : List (Addr × Obj)} {σ : L2.St} {H : Hp} {s : Shared}
theorem noneD_inv {a : Addr} {o : Obj} (I : Inv X pins σ H s) (h : H a = some (NoneD a o)) : NDx a o s.heap := (show ObjOk X.prog X.w H s.heap a (NoneD a o) from I.hok _ _ h).1
theorem noneD_dict {a : Addr} {o : Obj} (I : Inv X pins σ H s) (h : H a = some (NoneD a o)) : (a == sysModules) = false ∧ ∃ t, s.heap.DictOf (noneKind X.prog X.w) a [(none, .int 0 t)] := by
  obtain ⟨g, x, ⟨ep, t, d⟩, lo⟩ := noneD_inv I h
  refine ⟨lo, t, o, #[nEn t], ep, g, x, d, (fun e m => ?_), .cons rfl rfl .nil, by simp⟩
  have e' : e = nEn t := by simpa using m
  subst e'
  exact ⟨none, rfl, rfl⟩
/-- len -/
theorem call_lenN : CallR X (.builtin "len") (fun xs H Q => ∃ a o, xs = [V.ref a] ∧ H a = some (NoneD a o) ∧ Q (.int 1) H) := by
  intro pins s σ H xs us Q I r h
  obtain ⟨a, o, rfl, ha, q⟩ := h
  obtain ⟨u, rfl, ru⟩ := vals1 r
  cases (show u = Value.ref a from ru)
  obtain ⟨lo, t, dd⟩ := noneD_dict I ha
  exact call_len_dict lo dd (by show (1 : Int) < 2 ^ 63; decide) ⟨.int 1, H, I.tok _, ⟨_, rfl⟩, q⟩
end
/-- {None: 0} -/
def tDispN (tv : TE) : TE := fun σ H Q => ∀ p, H p = none → tv σ (upd H p (.dK [])) fun y H2 => H2 p = some (.dK []) ∧ y = .int 0 ∧ ∀ o, Q (.ref p) (upd H2 p (NoneD p o))
theorem empty_any {P : Program} {w : World} {h : Heap} {a : Addr} (d : h.DictOf (mixKind P w) a []) : h.DictOf (noneKind P w) a [] := by
  obtain ⟨o, es, ep, ho, hx, hd, hk, hp, hn⟩ := d
  have e : es = #[] := by
    have : es.toList = [] := by
      generalize es.toList = l at hp
      cases hp
      rfl
    exact Array.toList_eq_nil_iff.mp this
  subst e
  exact ⟨o, #[], ep, ho, hx, hd, (fun _ m => by simp at m), .nil, by simp⟩
theorem pe_dispN {X : Cx} {v : Expr} {j : Nat} {pos kp : Pos} {tv : TE} (hv : PE X v tv) : PE X (.Dict [some (.Constant .none j kp)] [v] pos) (tDispN tv) := by
  refine ⟨fun pins s σ H Q I q => ?_⟩
  have hn := I.hok.fresh (Nat.le_refl s.heap.objs.size)
  have I1 := I.laid (a := s.heap.objs.size) (o := .dK []) (h' := s.heap.push { cls := .type "dict", data := .dict #[] }) (t' := s.toks) (fun _ _ q => Heap.get?_push_of_some _ q) (Nat.le_refl _) (dk_empty s.heap I.big)
  refine wpAny_Dict_walk (knd := noneKind X.prog X.w) rfl rfl (by simp) (by simp) (pairTrees_cons_walk (Constant_none (thn (hv.run pins _ σ _ _ I1 (q _ hn)) fun w2 s2 ⟨y, H2, I2, ry, q2⟩ => pairTrees_nil_walk ?_)))
  obtain ⟨e, ey, q3⟩ := q2
  subst ey
  obtain ⟨t, rfl⟩ := ry
  obtain ⟨z, hd, vs0, r0, dd⟩ := dk_of I2.hok e
  cases r0
  refine ⟨[(none, .int 0 t)], ⟨rfl, rfl, trivial⟩, empty_any dd, fun h' dd' hs => ?_⟩
  obtain ⟨o, es, ep, ho, hx, hdt, hk, hp, hn2⟩ := dd'
  have e1 := one_pair (show Pairs (noneKind X.prog X.w) es.toList [(none, .int 0 t)] from hp) hk
  subst e1
  exact ⟨.ref s.heap.objs.size, _, d_write I2 (by rw [e]; exact True.intro) hs ⟨o, ho⟩ (noneD_ok ⟨ho, hx, ⟨ep, t, hdt⟩, hd⟩), rfl, q3 o⟩
/-! ### walked by its one key -/
def Itn (d : Addr) (o : Obj) : It := ⟨fun i H => H d = some (NoneD d o) ∧ i < 1, fun i H x H' => H' = H ∧ x = .non, fun i H => H d = some (NoneD d o) ∧ 1 ≤ i⟩
section
variable {P : Program} {w : World} {K : PySem.W.Frag} {tg : Expr} {d : Addr} {o : Obj} {ep t : Nat}
theorem turn_none (it : Addr) (hod : o.data = .dict #[nEn t] ep) : Turn P w K tg (Itn d o) [it] it (fun i h => h.IsKeyIter it d i 1 ep) where
  mem := by simp
  obj := fun i h st b hb => by
    have e : b = it := by simpa using hb
    subst e
    obtain ⟨oi, e, c, dd⟩ := st
    exact ⟨oi, e, fun v z => by rw [dd] at z; cases z⟩
  keep := fun i h h' st k => st.at fun oi e => k it (by simp) oi e
  item := by
    intro X hP hw hK hc i pins s σ H E I hf st hg
    subst hP hw hK
    obtain ⟨hd, hi⟩ := hg
    obtain ⟨f0, f1, f2, f3, f4, f5⟩ := hf it (by simp)
    obtain ⟨hgd, hx, _, lo⟩ := noneD_inv I hd
    have i0 : i = 0 := by omega
    subst i0
    refine next_key_item st hgd hod rfl (en := nEn t) rfl fun h' st' sb => ?_
    have I1 : Inv X pins σ H { s with heap := h' } := I.turned (t' := s.toks) (fun b ob hb e => (sb.2 b hb).trans e) f0 f1 f3 f4 f5
    obtain ⟨oi, e, c, dd⟩ := id st'
    exact ⟨.none, rfl, go_of (s := { s with heap := h' }) e c dd (by decide) ⟨.non, H, I1, rfl, ⟨rfl, rfl⟩, st', fun b hb => (hf b hb).1⟩⟩
  done := by
    intro X hP hw hK hc i pins s σ H E I hf st hg
    subst hP hw hK
    obtain ⟨hd, hi⟩ := hg
    obtain ⟨f0, f1, f2, f3, f4, f5⟩ := hf it (by simp)
    obtain ⟨hgd, hx, _, lo⟩ := noneD_inv I hd
    exact next_key_end (I.ok.hd hc) st hgd hod rfl hi fun h' eb => ⟨rfl, I.turned (t' := s.toks) (fun b ob hb e => eb b ob hb e) f0 f1 f3 f4 f5⟩
  self := fun A i s Q E st h => wpAny_pyIter_keyiter st h
end
def iNone (td : TE) : TI := fun σ H R => td σ H fun x H1 => ∃ d o, x = .ref d ∧ H1 d = some (NoneD d o) ∧ R (Itn d o) H1
section
variable {X : Cx} {tg e : Expr} {td : TE}
theorem pi_none (he : PE X e td) : PI X tg e (iNone td) := by
  refine ⟨fun pins s σ H R I h => ?_⟩
  refine thn (he.run pins s σ H _ I h) fun u s1 ⟨x, H1, I1, rx, d, o, ex, hd, q⟩ => ?_
  subst ex
  obtain rfl : u = Value.ref d := rx
  obtain ⟨hgd, hx, ⟨ep, t, hdt⟩, lo⟩ := noneD_inv I1 hd
  exact iter_keys lo hgd hx hdt (pi_one (tk := s1.toks) I1 _ (turn_none _ hdt) ⟨_, Heap.get?_push_size _ rfl, rfl, rfl⟩ q)
/-- either way of reading -/
theorem PI.or {ta tb : TI} (ha : PI X tg e ta) (hb : PI X tg e tb) : PI X tg e (fun σ H R => ta σ H R ∨ tb σ H R) := ⟨fun pins s σ H R I h => h.elim (ha.run pins s σ H R I) (hb.run pins s σ H R I)⟩
theorem PE.or {ta tb : TE} (ha : PE X e ta) (hb : PE X e tb) : PE X e (fun σ H Q => ta σ H Q ∨ tb σ H Q) := ⟨fun pins s σ H R I h => h.elim (ha.run pins s σ H R I) (hb.run pins s σ H R I)⟩
theorem PS.or {st : Stmt} {ta tb : TS} (ha : PS X st ta) (hb : PS X st tb) : PS X st (fun D σ H => ta D σ H ∨ tb D σ H) := ⟨fun pins s σ H D I h => h.elim (ha.run pins s σ H D I) (hb.run pins s σ H D I)⟩
end
theorem for_none {d : Addr} {o : Obj} {g : TG} {tb : TS} {D : Ends} {σ : L2.St} {H : Hp} (Pv : Nat → L2.St → Hp → Prop) (h0 : Pv 0 σ H) (hl : ∀ i σ H, i ≤ 1 → Pv i σ H → H d = some (NoneD d o))
    (hs : ∀ σ H, Pv 0 σ H → g .non σ H fun σ2 H2 => tb { D with nx := Pv 1, ct := Pv 1, bk := D.nx } σ2 H2) (hd : ∀ σ H, Pv 1 σ H → D.nx σ H) :
    ∃ W : Nat → Nat → L2.St → Hp → Prop, (∃ m, W 0 m σ H) ∧ ∀ i m σ H, W i m σ H →
      ((Itn d o).stop i H ∧ D.nx σ H) ∨ ((Itn d o).go i H ∧ ∃ N : L2.St → Hp → Prop, (∀ σ' H', N σ' H' → ∃ m', m' < m ∧ W (i + 1) m' σ' H') ∧ ∀ x H', (Itn d o).yld i H x H' → g x σ H' fun σ2 H2 => tb { D with nx := N, ct := N, bk := D.nx } σ2 H2) := by
  refine ⟨fun i m σ H => m = 1 - i ∧ i ≤ 1 ∧ Pv i σ H, ⟨1, by simp, Nat.zero_le _, h0⟩, ?_⟩
  rintro i m σ H ⟨rfl, hi, p⟩
  by_cases hlt : i < 1
  · have i0 : i = 0 := by omega
    subst i0
    refine .inr ⟨⟨hl _ _ _ hi p, hlt⟩, Pv 1, fun σ' H' p' => ⟨0, by omega, by omega, Nat.le_refl _, p'⟩, fun x H' y => ?_⟩
    obtain ⟨e, y⟩ := y
    subst e y
    exact hs σ _ p
  · have e : i = 1 := by omega
    subst e
    exact .inl ⟨⟨hl _ _ _ hi p, Nat.le_refl _⟩, hd σ H p⟩
theorem lc_none {d : Addr} {o : Obj} {g : TG} {tt : TT} {te : TE} {vs : List Nat} {σ : L2.St} {H1 : Hp} {D : Addr} {Qd : Hp → Prop} (Pv : Nat → Hp → Prop) (h0 : Pv 0 (upd H1 D (.lst []))) (hl : ∀ i H, i ≤ 1 → Pv i H → H d = some (NoneD d o))
    (hs : ∀ H, Pv 0 H → g .non (wipe σ vs) H fun σ2 H2 => wipe σ2 vs = wipe σ vs ∧ tt σ2 H2 fun b H3 =>
      if b = true then te σ2 H3 fun y H4 => ∃ acc, H4 D = some (.lst acc) ∧ acc.length < sizeLine ∧ Pv 1 (upd H4 D (.lst (acc ++ [y]))) else Pv 1 H3) (hd : ∀ H, Pv 1 H → Qd H) :
    ∃ W : Nat → Nat → Hp → Prop, (∃ m, W 0 m (upd H1 D (.lst []))) ∧ ∀ i m H, W i m H →
      ((Itn d o).stop i H ∧ Qd H) ∨ ((Itn d o).go i H ∧ ∃ Nx : Hp → Prop, (∀ H', Nx H' → ∃ m', m' < m ∧ W (i + 1) m' H') ∧ ∀ x H', (Itn d o).yld i H x H' → g x (wipe σ vs) H' fun σ2 H2 => wipe σ2 vs = wipe σ vs ∧ tt σ2 H2 fun b H3 =>
        if b = true then te σ2 H3 fun y H4 => ∃ acc, H4 D = some (.lst acc) ∧ acc.length < sizeLine ∧ Nx (upd H4 D (.lst (acc ++ [y]))) else Nx H3) := by
  refine ⟨fun i m H => m = 1 - i ∧ i ≤ 1 ∧ Pv i H, ⟨1, by simp, Nat.zero_le _, h0⟩, ?_⟩
  rintro i m H ⟨rfl, hi, p⟩
  by_cases hlt : i < 1
  · have i0 : i = 0 := by omega
    subst i0
    refine .inr ⟨⟨hl _ _ hi p, hlt⟩, Pv 1, fun H' p' => ⟨0, by omega, by omega, Nat.le_refl _, p'⟩, fun x H' y => ?_⟩
    obtain ⟨e, y⟩ := y
    subst e y
    exact hs _ p
  · have e : i = 1 := by omega
    subst e
    exact .inl ⟨⟨hl _ _ hi p, Nat.le_refl _⟩, hd H p⟩
theorem kv_vals : ∀ {kvs : List (Key × V)} {vs : List (Key × Value)}, KV kvs vs → Vals (kvs.map (·.2)) (vs.map (·.2))
  | _, _, .nil => .nil
  | _, _, .cons r t => .cons r.2 (kv_vals t)
/-! ### list(d.values()) -/
def tListVals (te : TE) : TE := fun σ H Q => te σ H fun x H1 => ∃ (d : Addr) (kvs : List (Key × V)), x = .ref d ∧ H1 d = some (.dK kvs) ∧ ∀ p, H1 p = none → Q (.ref p) (upd H1 p (.lst (kvs.map (·.2))))
section
variable {X : Cx} {e : Expr} {te : TE} {p apos cpos pos : Pos}
theorem pe_listVals (hc : X.calm = true) (he : PE X e te) (hg : Gl X "list") (hm : X.mg "list" = none) (hv : bootBuiltins "list" = some (.type "list")) (hbase : attributeBase e "values" X.env (eval e X.env) = eval e X.env := by rfl) (hline : (apos.endLine == cpos.line) = true := by rfl)
    (hs : starEach [.Call (.Attribute e "values" apos) [] [] cpos] X.env = (false, eval (.Call (.Attribute e "values" apos) [] [] cpos) X.env) :: starEach [] X.env := by rfl) :
    PE X (.Call (.Name "list" p) [.Call (.Attribute e "values" apos) [] [] cpos] [] pos) (tListVals te) := by
  refine ⟨fun pins s σ H Q I hq => ?_⟩
  refine wpAny_Call_Name_kw (ld_blt I hg hm hv ?_)
  refine PyProof.Rows.callWith_type1 ?_ hs rfl
  rw [hs]
  show wpAny _ _ (spliced ((false, eval (.Call (.Attribute e "values" apos) [] [] cpos) X.env) :: backTo pos (starEach [] X.env))) _ _ s
  refine Calls.spliced_cons ?_
  refine wpAny_Call_method (T := "dict") (id := "dict.values") hbase rfl hline F.plainAttrs_dict F.slot_dict_values F.type_dict_values (thn (he.run pins s σ H _ I hq) fun u s1 ⟨x, H1, I1, rx, d, kvs, ex, hd, q⟩ => ?_)
  subst ex
  obtain rfl : u = Value.ref d := rx
  obtain ⟨hz, hs0, vs, kv, hdo⟩ := I1.hok d _ hd
  obtain ⟨ep, hat⟩ := hdo.dictAt
  have lk : kvs.length = vs.length := Paired.length kv
  have I2 : Inv X pins σ H1 { s1 with heap := s1.heap.push { cls := .type "dict_values", data := .fields #[.ref d] } } := I1.kept (t' := s1.toks) fun b ob q => Heap.get?_push_of_some _ q
  refine ⟨hdo.typeIs, hdo.mapOf.noDict, ?_⟩
  show wpAny _ _ (callWith cpos (.builtin "dict.values") [.ref d] [] []) _ X.xe s1
  refine method_meetsIn F.slot_dict_values F.entry_dict_values rfl (PySem.evalArgs_none ⟨rfl, hdo.typeIs, F.args_dict_values_1 _, _, meets_dict_values (mixKind X.prog X.w) d hs0, ⟨vs, hdo⟩, ?_⟩)
  refine Calls.spliced_nil ?_
  refine PySem.W.kdl_call (PySem.W.kdl_values (knd := mixKind X.prog X.w) (kvs := vs) (ep := ep)) (I1.ok.hd hc) ⟨⟨_, Heap.get?_push_size _ rfl, rfl, rfl⟩, hat.push _⟩ (by rw [← lk]; exact hz) fun h' tk acc c' hk hD hacc => ?_
  have ea : acc.toList = vs.map (·.2) := by
    refine List.ext_getElem? fun j => ?_
    rw [List.getElem?_map]
    cases z : acc.toList[j]? with
    | some v =>
      obtain ⟨k, hk2⟩ := hacc.2 j v (by rw [← Array.getElem?_toList]; exact z)
      rw [hk2]; rfl
    | none =>
      have h1 : acc.toList.length ≤ j := List.getElem?_eq_none_iff.mp z
      rw [Array.length_toList, hacc.1] at h1
      rw [List.getElem?_eq_none h1]; rfl
  have hv2 : Vals (kvs.map (·.2)) acc.toList := by
    rw [ea]
    exact kv_vals kv
  exact ⟨.ref _, upd H1 _ (.lst (kvs.map (·.2))), I2.laid (t' := tk) hk (Nat.le_refl _) (show ObjOk X.prog X.w _ _ _ (.lst (kvs.map (·.2))) from ⟨by rw [List.length_map]; exact hz, acc.toList, c', hv2, by rw [Array.toArray_toList]; exact hD⟩), rfl, q _ (I2.hok.fresh (Nat.le_refl _))⟩
end
end Sk

/-! Things: data of any depth, dicts with keys ints and texts, and {None: 0}. -/
namespace Sk
open PySem PySem.Spec PyProof.Rows L2 Evl
def kPd : Key → PyData
  | .inl i => .int i
  | .inr x => .str x
def kSh : Key → Prop
  | .inl _ => True
  | .inr x => x.length ≤ 1000
mutual
inductive Dt (H : Hp) : V → PyData → Prop
  | non : Dt H .non .none
  | bl (b : Bool) : Dt H (.bl b) (.bool b)
  | int (i : Int) : Dt H (.int i) (.int i)
  | str (x : Str) (h : x.length ≤ 1000) : Dt H (.str x) (.str x)
  | lst {a xs ds} (e : H a = some (.lst xs)) (r : DtAll H xs ds) : Dt H (.ref a) (.list ds)
  | tup {a xs ds} (e : H a = some (.tup xs)) (r : DtAll H xs ds) : Dt H (.ref a) (.tuple ds)
  | dct {a kvs ds} (e : H a = some (.dK kvs)) (nd : (kvs.map (·.1)).Nodup) (r : DtKv H kvs ds) : Dt H (.ref a) (.dict ds)
  | dn {a o} (e : H a = some (NoneD a o)) : Dt H (.ref a) (.dict [(.none, .int 0)])
inductive DtAll (H : Hp) : List V → List PyData → Prop
  | nil : DtAll H [] []
  | cons {v vs d ds} (x : Dt H v d) (r : DtAll H vs ds) : DtAll H (v :: vs) (d :: ds)
inductive DtKv (H : Hp) : List (Key × V) → List (PyData × PyData) → Prop
  | nil : DtKv H [] []
  | cons {k : Key} {v d kvs ds} (hk : kSh k) (x : Dt H v d) (r : DtKv H kvs ds) : DtKv H ((k, v) :: kvs) ((kPd k, d) :: ds)
end
mutual
theorem Dt.mono {H H' : Hp} (e : Ex H H') : ∀ {v d}, Dt H v d → Dt H' v d
  | _, _, .non => .non
  | _, _, .bl b => .bl b
  | _, _, .int i => .int i
  | _, _, .str x h => .str x h
  | _, _, .lst h r => .lst (e _ _ h) (r.mono e)
  | _, _, .tup h r => .tup (e _ _ h) (r.mono e)
  | _, _, .dct h nd r => .dct (e _ _ h) nd (r.mono e)
  | _, _, .dn h => .dn (e _ _ h)
theorem DtAll.mono {H H' : Hp} (e : Ex H H') : ∀ {v d}, DtAll H v d → DtAll H' v d
  | _, _, .nil => .nil
  | _, _, .cons x r => .cons (x.mono e) (r.mono e)
theorem DtKv.mono {H H' : Hp} (e : Ex H H') : ∀ {v d}, DtKv H v d → DtKv H' v d
  | _, _, .nil => .nil
  | _, _, .cons hk x r => .cons hk (x.mono e) (r.mono e)
end
theorem DtAll.length {H : Hp} : ∀ {xs ds}, DtAll H xs ds → xs.length = ds.length
  | _, _, .nil => rfl
  | _, _, .cons _ r => congrArg Nat.succ r.length
theorem DtKv.length {H : Hp} : ∀ {xs ds}, DtKv H xs ds → xs.length = ds.length
  | _, _, .nil => rfl
  | _, _, .cons _ _ r => congrArg Nat.succ r.length
theorem DtAll.get {H : Hp} : ∀ {xs ds}, DtAll H xs ds → ∀ {i : Nat} {v : V}, xs[i]? = some v → ∃ d, ds[i]? = some d ∧ Dt H v d
  | _, _, .nil, _, _, e => by simp at e
  | _, _, .cons x r, 0, _, e => by simp at e; subst e; exact ⟨_, rfl, x⟩
  | _, _, .cons x r, i + 1, _, e => by
    obtain ⟨d, h1, h2⟩ := r.get (i := i) (by simpa using e)
    exact ⟨d, by simpa using h1, h2⟩
theorem DtAll.snoc {H : Hp} : ∀ {xs ds}, DtAll H xs ds → ∀ {v d}, Dt H v d → DtAll H (xs ++ [v]) (ds ++ [d])
  | _, _, .nil, _, _, x => .cons x .nil
  | _, _, .cons y r, _, _, x => .cons y (r.snoc x)
theorem DtAll.app {H : Hp} : ∀ {xs ds ys es}, DtAll H xs ds → DtAll H ys es → DtAll H (xs ++ ys) (ds ++ es)
  | _, _, _, _, .nil, q => q
  | _, _, _, _, .cons y r, q => .cons y (r.app q)
theorem DtKv.get {H : Hp} : ∀ {xs ds}, DtKv H xs ds → ∀ {i : Nat} {k : Key} {v : V}, xs[i]? = some (k, v) → ∃ d, ds[i]? = some (kPd k, d) ∧ kSh k ∧ Dt H v d
  | _, _, .nil, _, _, _, e => by simp at e
  | _, _, .cons hk x r, 0, _, _, e => by simp at e; obtain ⟨rfl, rfl⟩ := e; exact ⟨_, rfl, hk, x⟩
  | _, _, .cons hk x r, i + 1, _, _, e => by
    obtain ⟨d, h1, h2⟩ := r.get (i := i) (by simpa using e)
    exact ⟨d, by simpa using h1, h2⟩
theorem DtKv.vals {H : Hp} : ∀ {xs ds}, DtKv H xs ds → DtAll H (xs.map (·.2)) (ds.map (·.2))
  | _, _, .nil => .nil
  | _, _, .cons _ x r => .cons x r.vals
theorem Dt.key {H : Hp} {k : Key} (h : kSh k) : Dt H (kV k) (kPd k) := by
  cases k with
  | inl i => exact .int i
  | inr x => exact .str x h
theorem kPd_ty (k : Key) : (∀ xs, kPd k ≠ .list xs) ∧ ∀ xs, kPd k ≠ .dict xs := by
  cases k
  · exact ⟨(fun _ z => nomatch z), (fun _ z => nomatch z)⟩
  · exact ⟨(fun _ z => nomatch z), (fun _ z => nomatch z)⟩
/-! ### a thing is told by its value -/
mutual
theorem Dt.fn {H : Hp} : ∀ {v d}, Dt H v d → ∀ {d'}, Dt H v d' → d = d'
  | _, _, .non, _, h => by cases h; rfl
  | _, _, .bl b, _, h => by cases h; rfl
  | _, _, .int i, _, h => by cases h; rfl
  | _, _, .str x _, _, h => by cases h; rfl
  | _, _, .lst e r, _, h => by
    cases h with
    | lst e' r' =>
      rw [e] at e'
      cases e'
      rw [r.fn r']
    | tup e' r' => rw [e] at e'; cases e'
    | dct e' nd' r' => rw [e] at e'; cases e'
    | dn e' => rw [e] at e'; cases e'
  | _, _, .tup e r, _, h => by
    cases h with
    | tup e' r' =>
      rw [e] at e'
      cases e'
      rw [r.fn r']
    | lst e' r' => rw [e] at e'; cases e'
    | dct e' nd' r' => rw [e] at e'; cases e'
    | dn e' => rw [e] at e'; cases e'
  | _, _, .dct e nd r, _, h => by
    cases h with
    | dct e' nd' r' =>
      rw [e] at e'
      cases e'
      rw [r.fn r']
    | tup e' r' => rw [e] at e'; cases e'
    | lst e' r' => rw [e] at e'; cases e'
    | dn e' => rw [e] at e'; cases e'
  | _, _, .dn e, _, h => by
    cases h with
    | dn e' => rfl
    | tup e' r' => rw [e] at e'; cases e'
    | lst e' r' => rw [e] at e'; cases e'
    | dct e' nd' r' => rw [e] at e'; cases e'
theorem DtAll.fn {H : Hp} : ∀ {v d}, DtAll H v d → ∀ {d'}, DtAll H v d' → d = d'
  | _, _, .nil, _, h => by cases h; rfl
  | _, _, .cons x r, _, h => by
    cases h with
    | cons x' r' => rw [x.fn x', r.fn r']
theorem DtKv.fn {H : Hp} : ∀ {v d}, DtKv H v d → ∀ {d'}, DtKv H v d' → d = d'
  | _, _, .nil, _, h => by cases h; rfl
  | _, _, .cons _ x r, _, h => by
    cases h with
    | cons _ x' r' => rw [x.fn x', r.fn r']
end
/-! ### what is less deep does not hold the whole -/
mutual
theorem Dt.off {H : Hp} {a : Addr} {D : PyData} (hD : Dt H (.ref a) D) : ∀ {v d}, Dt H v d → d.depth < D.depth → Dt (Hd a H) v d
  | _, _, .non, _ => .non
  | _, _, .bl b, _ => .bl b
  | _, _, .int i, _ => .int i
  | _, _, .str x h, _ => .str x h
  | _, _, .lst (a := b) (xs := xs) (ds := ds) e r, l => by
    have n : b ≠ a := by
      intro z; subst z
      rw [hD.fn (.lst e r)] at l
      exact absurd l (Nat.lt_irrefl _)
    refine .lst (hd_of n e) (r.off hD ?_)
    simp only [PyData.depth] at l
    omega
  | _, _, .tup (a := b) (ds := ds) e r, l => by
    have n : b ≠ a := by
      intro z; subst z
      rw [hD.fn (.tup e r)] at l
      exact absurd l (Nat.lt_irrefl _)
    refine .tup (hd_of n e) (r.off hD ?_)
    simp only [PyData.depth] at l
    omega
  | _, _, .dct (a := b) (ds := ds) e nd r, l => by
    have n : b ≠ a := by
      intro z; subst z
      rw [hD.fn (.dct e nd r)] at l
      exact absurd l (Nat.lt_irrefl _)
    refine .dct (hd_of n e) nd (r.off hD ?_)
    simp only [PyData.depth] at l
    omega
  | _, _, .dn (a := b) (o := o) e, l => by
    have n : b ≠ a := by
      intro z; subst z
      rw [hD.fn (.dn e)] at l
      exact absurd l (Nat.lt_irrefl _)
    exact .dn (hd_of n e)
theorem DtAll.off {H : Hp} {a : Addr} {D : PyData} (hD : Dt H (.ref a) D) : ∀ {v d}, DtAll H v d → PyData.depthAll d < D.depth → DtAll (Hd a H) v d
  | _, _, .nil, _ => .nil
  | _, _, .cons x r, l => by
    simp only [PyData.depthAll] at l
    exact .cons (Dt.off hD x (by omega)) (r.off hD (by omega))
theorem DtKv.off {H : Hp} {a : Addr} {D : PyData} (hD : Dt H (.ref a) D) : ∀ {v d}, DtKv H v d → PyData.depthKv d < D.depth → DtKv (Hd a H) v d
  | _, _, .nil, _ => .nil
  | _, _, .cons hk x r, l => by
    simp only [PyData.depthKv] at l
    exact .cons hk (Dt.off hD x (by omega)) (r.off hD (by omega))
end
theorem DtKv.part {H : Hp} {a : Addr} {kvs : List (Key × V)} {ds : List (PyData × PyData)} (e : H a = some (.dK kvs)) (nd : (kvs.map (·.1)).Nodup) (r : DtKv H kvs ds) {i : Nat} {k : Key} {v : V} (hx : kvs[i]? = some (k, v)) : ∃ d, ds[i]? = some (kPd k, d) ∧ kSh k ∧ Dt (Hd a H) v d := by
  have r2 := r.off (.dct e nd r) (by simp only [PyData.depth]; omega)
  exact r2.get hx
theorem valV_nd : ∀ {kvs : List (Key × V)} {i : Nat} {k : Key} {v : V}, (kvs.map (·.1)).Nodup → kvs[i]? = some (k, v) → valV kvs k = some v
  | [], _, _, _, _, h => by simp at h
  | p :: r, 0, k, v, _, h => by
    simp at h
    subst h
    simp [valV]
  | p :: r, i + 1, k, v, nd, h => by
    have h' : r[i]? = some (k, v) := by simpa using h
    rw [List.map_cons, List.nodup_cons] at nd
    have hk : p.1 ≠ k := fun z => nd.1 (by rw [z]; exact List.mem_map.mpr ⟨_, List.mem_of_getElem? h', rfl⟩)
    have ih := valV_nd nd.2 h'
    rw [← ih]
    simp [valV, hk]
/-! ### repr, isinstance -/
section
variable {X : Cx} {pins : List (Addr × Obj)} {σ : L2.St} {H : Hp} {s : Shared}
mutual
theorem Dt.rx (I : Inv X pins σ H s) : ∀ {v : V} {d : PyData} {u : Value}, Dt H v d → RelV v u → Rx s.heap u d
  | _, _, _, .non, r => by cases r; exact .none
  | _, _, _, .bl b, r => by cases r; exact .bool b
  | _, _, _, .int i, r => by obtain ⟨t, rfl⟩ := r; exact .int i t
  | _, _, _, .str x _, r => by obtain ⟨t, rfl⟩ := r; exact .str x t
  | _, _, _, .lst e ra, r => by
    cases r
    obtain ⟨_, its, n, rv, z⟩ := I.hok _ _ e
    exact .list z rfl rfl (by simpa using ra.rx I rv)
  | _, _, _, .tup e ra, r => by
    cases r
    obtain ⟨_, its, rv, o, z, c, n, q⟩ := I.hok _ _ e
    exact .tuple z c q (by simpa using ra.rx I rv)
  | _, _, _, .dct e _ ra, r => by
    cases r
    obtain ⟨_, low, vs, rel, o, es, ep, z, c, q, _, pr, _⟩ := dk_of I.hok e
    obtain ⟨h1, h2⟩ := ra.rx I rel pr
    exact .dict low z c.1 q h1 h2
  | _, _, _, .dn e, r => by
    cases r
    obtain ⟨g, c, ⟨ep, t, q⟩, lo⟩ := noneD_inv I e
    exact .dict lo g c.1 q (.cons .none .nil) (.cons (.int 0 t) .nil)
theorem DtAll.rx (I : Inv X pins σ H s) : ∀ {v : List V} {d : List PyData} {u : List Value}, DtAll H v d → Vals v u → RxAll s.heap u d
  | _, _, _, .nil, r => by cases r; exact .nil
  | _, _, _, .cons x ra, r => by
    cases r with
    | cons r1 r2 => exact .cons (x.rx I r1) (ra.rx I r2)
theorem DtKv.rx (I : Inv X pins σ H s) : ∀ {kvs : List (Key × V)} {ds : List (PyData × PyData)} {vs : List (Key × Value)} {es : List DictEntry}, DtKv H kvs ds → KV kvs vs → Pairs (mixKind X.prog X.w) es vs →
    RxAll s.heap (es.map (·.key)) (ds.map (·.1)) ∧ RxAll s.heap (es.map (·.val)) (ds.map (·.2))
  | _, _, _, _, .nil, r, p => by
    cases r
    cases p
    exact ⟨.nil, .nil⟩
  | _, _, _, _, .cons (k := k) hk x ra, r, p => by
    cases r with
    | @cons a b _ _ r1 r2 =>
      obtain ⟨kb, vb⟩ := b
      obtain ⟨h1, h2⟩ := r1
      have h1' : k = kb := h1
      subst h1'
      cases p with
      | @cons e kv _ _ p1 p2 p3 =>
        obtain ⟨g1, g2⟩ := ra.rx I r2 p3
        have hk : keyIs k e.key = true := p1
        have ev : e.val = vb := p2
        simp only [List.map_cons]
        rw [ev]
        rcases keyIs_shape hk with ⟨i, t, rfl, ek⟩ | ⟨y, t, rfl, ek⟩
        · rw [ek]
          exact ⟨.cons (.int i t) g1, .cons (x.rx I h2) g2⟩
        · rw [ek]
          exact ⟨.cons (.str y t) g1, .cons (x.rx I h2) g2⟩
end
end
theorem call_reprT {X : Cx} (hg : X.A.guards = some []) (hu : X.A.units + 64 < cLine) : CallR X (.builtin "repr") (fun xs H Q => ∃ x d, xs = [x] ∧ Dt H x d ∧ d.showable = true ∧ d.shown.length ≤ sizeLine ∧ d.depth ≤ 60 ∧ Q (.str d.shown) H) := by
  intro pins s σ H xs us Q I r h
  obtain ⟨x, d, rfl, hd, hs, hz, hl, q⟩ := h
  obtain ⟨u, rfl, ru⟩ := vals1 r
  exact call_repr_rx (hd.rx I ru) hs hz hg (by omega) fun h' u' tk k => ⟨.str d.shown, H, I.kept k, ⟨_, rfl⟩, q⟩
theorem call_isT {X : Cx} : CallR X (.builtin "isinstance") (fun xs H Q => ∃ x T d b, xs = [x, .ty T] ∧ Dt H x d ∧ kitB (tyD d) T = some b ∧ Q (.bl b) H) := by
  intro pins s σ H xs us Q I r h
  obtain ⟨x, T, d, b, rfl, hd, hk, q⟩ := h
  have base : ∀ t, TyX X.K H x (.type t) → t = tyD d → wpAny (model X.prog X.w) X.A (call (.builtin "isinstance") us) (EP X pins σ Q) X.xe s := fun t ty e => by
    subst e
    exact call_isi pins s σ H _ us Q I r ⟨x, .ty T, _, _, b, rfl, .ty T, ty, kit_ty hk, q⟩
  cases hd with
  | non => exact base _ (.base .non) rfl
  | bl b => exact base _ (.base (.bl b)) rfl
  | int i => exact base _ (.base (.int i)) rfl
  | str z _ => exact base _ (.base (.str z)) rfl
  | lst e _ => exact base _ (.base (.lst e)) rfl
  | tup e _ => exact base _ (.base (.tup e)) rfl
  | dct e _ _ => exact base _ (.base (.dK e)) rfl
  | dn e =>
    obtain ⟨u1, u2, rfl, r1, r2⟩ := vals2 r
    cases (show u1 = Value.ref _ from r1)
    have e2 := (ClsV.ty T).eq r2
    subst e2
    obtain ⟨g, c, _⟩ := noneD_inv I e
    exact PySem.W.kia_one PySem.W.kitx_dict I.kIn ⟨_, g, c.1⟩ (kit_ty hk) (fun z => nomatch z) fun tk => ⟨.bl b, H, I.tok tk, rfl, q⟩
mutual
theorem Dq.t {H : Hp} {b : Bool} : ∀ {n : Nat} {v d}, Dq H v d → Gd b n d → Dt H v d
  | _, _, _, .non, _ => .non
  | _, _, _, .bl b, _ => .bl b
  | _, _, _, .int i, _ => .int i
  | n, _, _, .str x, g => by
    cases n with
    | zero => exact g.elim
    | succ n => exact .str x (Nat.le_trans g.1 (by decide))
  | n, _, _, .lst e r, g => by
    cases n with
    | zero => exact g.elim
    | succ n => exact .lst e (r.t g.2)
  | n, _, _, .tup e r, g => by
    cases n with
    | zero => exact g.elim
    | succ n => exact g.elim
  | n, _, _, .dct e r, g => by
    cases n with
    | zero => exact g.elim
    | succ n =>
      refine .dct e ?_ (r.t g.2.1)
      rw [r.keys]
      exact List.Pairwise.map Sum.inr (fun _ _ h z => h (Sum.inr.inj z)) g.2.2.1
theorem DqAll.t {H : Hp} {b : Bool} : ∀ {n : Nat} {v d}, DqAll H v d → (∀ x ∈ d, Gd b n x) → DtAll H v d
  | _, _, _, .nil, _ => .nil
  | _, _, _, .cons x r, g => .cons (x.t (g _ (by simp))) (r.t fun y m => g y (by simp [m]))
theorem DqKv.t {H : Hp} {b : Bool} : ∀ {n : Nat} {v d}, DqKv H v d → (∀ p ∈ d, p.1 = .str (keyS p.1) ∧ okS 8 (keyS p.1) ∧ Gd b n p.2) → DtKv H v d
  | _, _, _, .nil, _ => .nil
  | _, _, _, .cons x r, g => by
    obtain ⟨_, h1, h2⟩ := g _ (List.mem_cons_self)
    exact .cons (k := .inr _) (Nat.le_trans h1.1 (by decide)) (x.t h2) (r.t fun y m => g y (by simp [m]))
end
end Sk

namespace Sk
open PySem PySem.Spec PyProof.Rows L2 Evl
section
variable {X : Cx}
def rNil (f : Bool → Bool) : R2 := fun x y H Q => ∃ a b xs, x = .ref a ∧ y = .ref b ∧ H a = some (.lst xs) ∧ H b = some (.lst []) ∧ Q (.bl (f xs.isEmpty)) H
theorem op_eqNil (hu : X.A.units < cLine) : OpR X (compareOp .Eq) (rNil id) := by
  intro pins s σ H x y v u Q I rx ry h
  obtain ⟨a, b, xs, rfl, rfl, ea, eb, q⟩ := h
  cases (show v = Value.ref a from rx)
  cases (show u = Value.ref b from ry)
  obtain ⟨z, its, n, r, e⟩ := I.hok a _ ea
  obtain ⟨z2, its2, n2, r2, e2⟩ := I.hok b _ eb
  cases r2
  cases xs with
  | nil =>
    cases r
    exact SeqAt.RcAt.lists (e := fun _ => true) ⟨_, e, rfl, n, rfl⟩ ⟨_, e2, rfl, n2, rfl⟩ rfl hu (fun j h1 => absurd h1 (by simp)) _ _ _ _ ⟨.bl true, H, I, rfl, q⟩
  | cons x xs =>
    cases r with
    | cons r1 r3 =>
      exact SeqAt.RcAt.lists_lengths ⟨_, e, rfl, n, rfl⟩ ⟨_, e2, rfl, n2, rfl⟩ (by simp) hu _ _ _ _ ⟨.bl false, H, I, rfl, q⟩
theorem op_neNil (hu : X.A.units < cLine) : OpR X (compareOp .NotEq) (rNil not) := by
  intro pins s σ H x y v u Q I rx ry h
  obtain ⟨a, b, xs, rfl, rfl, ea, eb, q⟩ := h
  cases (show v = Value.ref a from rx)
  cases (show u = Value.ref b from ry)
  obtain ⟨z, its, n, r, e⟩ := I.hok a _ ea
  obtain ⟨z2, its2, n2, r2, e2⟩ := I.hok b _ eb
  cases r2
  cases xs with
  | nil =>
    cases r
    exact SeqAt.RcNeAt.lists (e := fun _ => true) ⟨_, e, rfl, n, rfl⟩ ⟨_, e2, rfl, n2, rfl⟩ rfl hu (fun j h1 => absurd h1 (by simp)) _ _ _ _ ⟨.bl false, H, I, rfl, q⟩
  | cons x xs =>
    cases r with
    | cons r1 r3 =>
      exact SeqAt.RcNeAt.lists_lengths ⟨_, e, rfl, n, rfl⟩ ⟨_, e2, rfl, n2, rfl⟩ (by simp) hu _ _ _ _ ⟨.bl true, H, I, rfl, q⟩
def rNilD : R2 := fun x y H Q => ∃ a b kvs, x = .ref a ∧ y = .ref b ∧ H a = some (.dK kvs) ∧ H b = some (.dK []) ∧ Q (.bl (!kvs.isEmpty)) H
theorem op_neNilD (hu : X.A.units < cLine) : OpR X (compareOp .NotEq) rNilD := by
  intro pins s σ H x y v u Q I rx ry h
  obtain ⟨a, b, kvs, rfl, rfl, ea, eb, q⟩ := h
  cases (show v = Value.ref a from rx)
  cases (show u = Value.ref b from ry)
  obtain ⟨_, ya, va, ra, da⟩ := (show ObjOk X.prog X.w H s.heap a (.dK kvs) from I.hok a _ ea)
  obtain ⟨_, yb, vb, rb, db⟩ := (show ObjOk X.prog X.w H s.heap b (.dK []) from I.hok b _ eb)
  cases rb
  cases kvs with
  | nil =>
    cases ra
    exact PySem.W.keq_ne (knd := mixKind X.prog X.w) (r := true) ya yb da db hu (fun _ => .nil) ⟨.bl false, H, I, rfl, q⟩
  | cons p kvs =>
    cases ra with
    | cons r1 r2 => exact PySem.W.keq_ne (knd := mixKind X.prog X.w) (r := true) ya yb da db hu (fun z => by cases z) ⟨.bl true, H, I, rfl, q⟩
end
theorem ex_mut {H H4 : Hp} {a : Addr} {o : HO} (x : Ex H H4) (h : H a = none) : Ex H (upd H4 a o) := fun b u e => by
  rw [upd_ne (ne_of_none e h)]
  exact x _ _ e
theorem ex_none {H H1 : Hp} {a : Addr} (x : Ex H H1) (h : H1 a = none) : H a = none := by
  cases e : H a with
  | none => rfl
  | some o => rw [x _ _ e] at h; cases h
theorem abs9 (i : Int) : decide ((if i < 0 then -i else i) ≤ (10 : Int) ^ (9 : Int).toNat) = (decide (-1000000000 ≤ i) && decide (i ≤ 1000000000)) := by
  have e : (10 : Int) ^ (9 : Int).toNat = 1000000000 := by decide
  rw [e, ← Bool.decide_and]
  refine decide_eq_decide.mpr ?_
  split <;> omega
theorem in_bools {α : Type} (f : α → Bool) : ∀ l : List α, inV (.bl false) (l.map fun p => V.bl (f p)) = !l.all f
  | [] => rfl
  | x :: r => by
    have ih := in_bools f r
    unfold inV at ih ⊢
    rw [List.map_cons, List.any_cons, ih, List.all_cons]
    cases f x with
    | true => rfl
    | false => rfl
theorem flat_bools {α : Type} (f : α → Bool) : ∀ l : List α, (l.map fun p => V.bl (f p)).all flatV = true
  | [] => rfl
  | x :: r => by rw [List.map_cons, List.all_cons, flat_bools f r]; rfl
/-- list(text) -/
theorem sign_vals {x : Str} : ∀ (l : List Value) (cs : List Nat), l.length = cs.length → (∀ (j : Nat) (v : Value), l[j]? = some v → ∃ (c : Nat) (u : Tok), cs[j]? = some c ∧ v = .str ⟨#[c]⟩ u) → Vals (cs.map fun c => V.str ⟨#[c]⟩) l
  | [], [], _, _ => .nil
  | v :: l, c :: cs, h, g => by
    obtain ⟨c', u, e, rfl⟩ := g 0 v rfl
    cases e
    exact .cons ⟨u, rfl⟩ (sign_vals (x := x) l cs (Nat.succ.inj h) fun j v e => by
      obtain ⟨c, u, h1, h2⟩ := g (j + 1) v (by simpa using e)
      exact ⟨c, u, by simpa using h1, h2⟩)
theorem call_listS {X : Cx} (hc : X.calm = true) : CallR X (.type "list") (fun xs H Q => ∃ x : Str, xs = [.str x] ∧ x.length ≤ sizeLine ∧ ∀ p, H p = none → Q (.ref p) (upd H p (.lst (x.cps.toList.map fun c => V.str ⟨#[c]⟩)))) := by
  intro pins s σ H xs us Q I r h
  obtain ⟨x, rfl, hz, q⟩ := h
  obtain ⟨u, rfl, t, rfl⟩ := vals1 r
  refine call_list_str (I.ok.hd hc) x t (fun h' tk acc' c' hk hD hacc => ?_) hz
  have hl : acc'.toList.length = x.cps.toList.length := by rw [Array.length_toList, hacc.1]; simp
  have hv := sign_vals (x := x) acc'.toList x.cps.toList hl fun j v e => by
    obtain ⟨c, u, h1, h2⟩ := hacc.2 j v (by rw [← Array.getElem?_toList]; exact e)
    exact ⟨c, u, by rw [Array.getElem?_toList]; exact h1, h2⟩
  exact ⟨.ref _, upd H _ (.lst (x.cps.toList.map fun c => V.str ⟨#[c]⟩)), I.laid (t' := tk) hk (Nat.le_refl _) (show ObjOk X.prog X.w _ _ _ (.lst (x.cps.toList.map fun c => V.str ⟨#[c]⟩)) from ⟨by rw [List.length_map, Array.length_toList]; exact hz, acc'.toList, c', hv, by rw [Array.toArray_toList]; exact hD⟩), rfl, q _ (I.hok.fresh (Nat.le_refl _))⟩
/-! ### what is written out is made of new objects -/
def Lit (te : TE) (σ : L2.St) (d : PyData) : Prop := ∀ H Q, (∀ v H', Ex H H' → Dt (Nw H H') v d → Q v H') → te σ H Q
def Lits (ta : TA) (σ : L2.St) (ds : List PyData) : Prop := ∀ H Q, (∀ vs H', Ex H H' → DtAll (Nw H H') vs ds → Q vs H') → ta σ H Q
theorem nw_up {G H H' : Hp} (x : Ex H H') : Ex (Nw G H) (Nw G H') := fun b o e => nw_of (nw_some e).1 (x _ _ (nw_some e).2)
theorem nw_dn {G G' H : Hp} (x : Ex G G') : Ex (Nw G' H) (Nw G H) := nw_back fun a h => ex_none x h
section
variable {σ : L2.St} {te tv : TE} {ta : TA} {d : PyData} {ds : List PyData}
theorem lits_nil : Lits tNil σ [] := fun H Q h => h [] H (Ex.refl _) .nil
theorem lits_cons (h : Lit te σ d) (h2 : Lits ta σ ds) : Lits (tCons te ta) σ (d :: ds) := fun H Q q => h H _ fun v H1 x1 a => h2 H1 _ fun vs H2 x2 b => q (v :: vs) H2 (x1.trans x2) (.cons (a.mono (nw_up x2)) (b.mono (nw_dn x1)))
theorem lit_int {i : Int} : Lit (tC (.int i)) σ (.int i) := fun H Q q => q _ H (Ex.refl _) (.int i)
theorem lit_bl {i : Bool} : Lit (tC (.bl i)) σ (.bool i) := fun H Q q => q _ H (Ex.refl _) (.bl i)
theorem lit_non : Lit (tC .non) σ .none := fun H Q q => q _ H (Ex.refl _) .non
theorem lit_str {x : Str} (h : x.length ≤ 1000 := by decide) : Lit (tC (.str x)) σ (.str x) := fun H Q q => q _ H (Ex.refl _) (.str x h)
theorem lit_var {i : Nat} {x : Str} (e : σ[i]? = some (some (.str x))) (h : x.length ≤ 1000) : Lit (tVar i) σ (.str x) := fun H Q q => ⟨_, e, q _ H (Ex.refl _) (.str x h)⟩
theorem lit_lst (h : Lits ta σ ds) (hl : ds.length ≤ sizeLine) : Lit (tLst ta) σ (.list ds) := fun H Q q => h H _ fun vs H1 x1 a => ⟨by rw [a.length]; exact hl, fun p np => q _ _ (x1.trans (Ex.new np)) (.lst (nw_of (ex_none x1 np) upd_same) (a.mono (nw_new np)))⟩
theorem lit_tup (h : Lits ta σ ds) (hl : ds.length ≤ sizeLine) : Lit (tTup ta) σ (.tuple ds) := fun H Q q => h H _ fun vs H1 x1 a => ⟨by rw [a.length]; exact hl, fun p np => q _ _ (x1.trans (Ex.new np)) (.tup (nw_of (ex_none x1 np) upd_same) (a.mono (nw_new np)))⟩
theorem lit_dnew : Lit tDNewK σ (.dict []) := fun H Q q p np => q _ _ (Ex.new np) (.dct (nw_of np upd_same) (by simp) .nil)
/-- a key that is reckoned without the heap -/
def Kt (tk : TE) (σ : L2.St) (k : Key) : Prop := ∀ H Q, Q (kV k) H → tk σ H Q
theorem kt_str {x : Str} : Kt (tC (.str x)) σ (.inr x) := fun H Q q => q
theorem kt_int {i : Int} : Kt (tC (.int i)) σ (.inl i) := fun H Q q => q
theorem lit_disp {tk : TE} {k : Key} (ht : Kt tk σ k) (hk : kSh k) (h : Lit tv σ d) : Lit (tDisp [(tk, tv)]) σ (.dict [(kPd k, d)]) := fun H Q q p np => ht _ _ <| h _ _ fun v H1 x1 a => by
  have hp : H1 p = some (.dK []) := x1 _ _ upd_same
  have x2 : Ex H (upd H1 p (.dK [(k, v)])) := fun b o e => by
    have n : b ≠ p := ne_of_none e np
    rw [upd_ne n]; exact x1 _ _ (by rw [upd_ne n]; exact e)
  refine ⟨hp, [(k, v)], rfl, by simp, ?_⟩
  refine q _ _ x2 (.dct (kvs := [(k, v)]) (nw_of np upd_same) (by simp) (.cons hk (a.mono fun b o e => ?_) .nil))
  obtain ⟨h1, h2⟩ := nw_some e
  have n : b ≠ p := by intro z; subst z; rw [upd_same] at h1; cases h1
  exact nw_of (by rw [upd_ne n] at h1; exact h1) (by rw [upd_ne n]; exact h2)
theorem lit_dispN : Lit (tDispN (tC (.int 0))) σ (.dict [(.none, .int 0)]) := fun H Q q p np => ⟨upd_same, rfl, fun o => q _ _ (fun b u e => by
  have n : b ≠ p := ne_of_none e np
  rw [upd_ne n, upd_ne n]; exact e) (.dn (nw_of np upd_same))⟩
end
section
variable {σ : L2.St} {te : TE}
theorem lit_of {i : Int} (h : ∀ H Q, Q (.int i) H → te σ H Q) : Lit te σ (.int i) := fun H Q q => h H Q (q _ H (Ex.refl _) (.int i))
theorem kS {x : Str} (h : x.length ≤ 1000 := by decide) : kSh (.inr x) := h
theorem lit_one {ta : TA} {d : PyData} (h : Lits ta σ [d]) : Lit (tLst ta) σ (.list [d]) := lit_lst h (show 1 ≤ sizeLine by decide)
theorem zeros {H : Hp} : ∀ n : Nat, DtAll H (List.replicate n [V.int 0]).flatten (List.replicate n (.int 0))
  | 0 => .nil
  | n + 1 => .cons (.int 0) (zeros n)
theorem lit_rep {k : Int} (h0 : 0 ≤ k) (h1 : k ≤ 100) : Lit (tOp rRep (tLst (tCons (tC (.int 0)) tNil)) (tC (.int k))) σ (.list (List.replicate k.toNat (.int 0))) := fun H Q q =>
  ⟨by show 1 ≤ sizeLine; decide, fun p np => ⟨p, k, [.int 0], rfl, rfl, upd_same, by omega, by omega, by rw [sizeLine_eq]; show 1 * k.toNat ≤ _; omega, fun p2 np2 => q _ _ ((Ex.new np).trans (Ex.new np2)) (.lst (nw_of (upd_none np2) upd_same) (zeros _))⟩⟩
end
theorem _root_.Sk.Aft.ex {st : Addr} {H H1 H2 : Hp} (a : Aft st H H1) (x : Ex H1 H2) : Aft st H H2 := a.trans ⟨gr_ex x, by
  obtain ⟨d, sd, e, r⟩ := a.sm
  exact ⟨d, sd, x _ _ e, r⟩⟩
theorem _root_.Sk.Aft.dn {st : Addr} {G H1 H2 : Hp} (a : Aft st G H1) : Ex (Nw H1 H2) (Nw G H2) := nw_back fun _ z => a.none z
theorem paired_snoc {α β : Type} {F : α → β → Prop} : ∀ {l : List α} {m : List β}, Paired F l m → ∀ {a b}, F a b → Paired F (l ++ [a]) (m ++ [b])
  | _, _, .nil, _, _, h => .cons h .nil
  | _, _, .cons x r, _, _, h => .cons x (paired_snoc r h)
end Sk

/-! are_steps of any thing. -/
namespace Sk
open PySem PySem.Spec PyProof.Rows L2 Evl
def spStepX (K : PySem.W.Frag) : Sp := fun vs H Q _ => ∃ (v : V) (t : Value), vs = [v] ∧ TyX K H v t ∧ PySem.W.kitOne K t (.type "tuple") = some false ∧ Q (.bl false) H
def spStepC (K : PySem.W.Frag) : Sp := fun vs H Q E => spStepB vs H Q E ∨ spStepX K vs H Q E
/-- a thing, and whether it is a step -/
def El (K : PySem.W.Frag) (H : Hp) (v : V) (b : Bool) : Prop := (∃ d, Dq H v d ∧ Fts d ∧ b = stD d) ∨ ∃ t, (∀ H', Ex H H' → TyX K H' v t) ∧ PySem.W.kitOne K t (.type "tuple") = some false ∧ b = false
theorem El.mono {K : PySem.W.Frag} {H H' : Hp} {v : V} {b : Bool} (x : Ex H H') (h : El K H v b) : El K H' v b := by
  rcases h with ⟨d, h1, h2⟩ | ⟨t, h1, h2⟩
  · exact .inl ⟨d, h1.mono x, h2⟩
  · exact .inr ⟨t, fun H2 x2 => h1 H2 (x.trans x2), h2⟩
def Els (K : PySem.W.Frag) (H : Hp) (ws : List V) (bs : List Bool) : Prop := ws.length = bs.length ∧ ∀ (i : Nat) (v : V), ws[i]? = some v → ∃ b, bs[i]? = some b ∧ El K H v b
def spAreB (K : PySem.W.Frag) : Sp := fun vs H Q _ => (∃ (v : V) (t : Value), vs = [v] ∧ (∀ H', Ex H H' → TyX K H' v t) ∧ PySem.W.kitAny K t [.type "list", .type "tuple"] = some false ∧ ∀ H', Ex H H' → Q (.bl false) H') ∨
  (∃ (a : Addr) (ws : List V) (bs : List Bool), vs = [.ref a] ∧ H a = some (.lst ws) ∧ Els K H ws bs ∧ ws.length ≤ 100000 ∧ ∀ H', Ex H H' → Q (.bl (bs.all id)) H') ∨
  ∃ (a : Addr) (ws : List V) (bs : List Bool), vs = [.ref a] ∧ H a = some (.tup ws) ∧ Els K H ws bs ∧ ws.length ≤ 100000 ∧ ∀ H', Ex H H' → Q (.bl (bs.all id)) H'
section
variable {P : Program} {w : World} {K : PySem.W.Frag} {mg : Str → Option Value} {base : Heap} {f g : Addr} {fd gd : FuncData}
theorem ok_stepX {k : Nat} (F : Fun K "is_step" "is_step" sStep f fd) (B : Blt mg) (B2 : Blt2 mg) : FnOk P w K mg base CX0 (k + 1) f fd ["thing"] (spStepX K) := by
  refine F.ok scStep (fun vs H Q E h => ?_) (fun cdv A outer s H vs Q E hr h => ?_)
  · obtain ⟨_, _, rfl, _⟩ := h
    rfl
  obtain ⟨v, t, rfl, ht, hk, q⟩ := h
  have nd := scStep.nd
  refine ⟨_, pss_cons (ps_if (PW.pt (pw_or (pt_not (pt_val (pe_callB call_isi rfl B.isi bt_isi (pa_cons (pv 0) (pa_cons (pe_bltn (v := .ty "tuple") rfl B2.tuple bt_tuple rfl) pa_nil)))))
      (pw_or (pt_cmpR op_lt (pe_callB call_len_seq rfl B.len PySem.boot_len (pa_cons (pv 0) pa_nil)) pe_int (nomark _)) (pw_or1 (pt_not (pt_val (pe_callB call_isD rfl B.isi bt_isi (pa_cons (pe_ix ix_tup (pv 0) pe_int (fun _ _ => rfl)) (pa_cons (pe_bltn (v := .ty "str") rfl B.str bt_str rfl) pa_nil))))))))) (pss_one (ps_ret pe_bl)) pss_nil)
    (pss_cons ps_never (pss_one ps_never)), ?_⟩
  exact ⟨_, rfl, v, .ty "tuple", t, _, false, rfl, .ty _, ht, hk, false, rfl, iteT q⟩
theorem all_take {bs : List Bool} {i : Nat} {b : Bool} (h : bs[i]? = some b) : (bs.take (i + 1)).filter (fun b => !b) = (bs.take i).filter (fun b => !b) ++ (if b then [] else [false]) := by
  rw [take_snoc h, List.filter_append]
  cases b <;> rfl
theorem no_false {bs : List Bool} : (bs.filter (fun b => !b)).isEmpty = bs.all id := by
  induction bs with
  | nil => rfl
  | cons b bs ih => cases b <;> simp [List.filter_cons]; simpa using ih
theorem ok_areB (F : Fun K "are_steps" "are_steps" sAre f fd) (B : Blt mg) (B2 : Blt2 mg) (St : Lt P w K mg base g gd "is_step" ["thing"] 2 (spStepC K)) : FnOk P w K mg base CX0 3 f fd ["thing"] (spAreB K) := by
  refine F.ok scAre (fun vs H Q E h => ?_) (fun cdv A outer s H vs Q E hr h => ?_)
  · rcases h with ⟨_, _, rfl, _⟩ | ⟨_, _, _, rfl, _⟩ | ⟨_, _, _, rfl, _⟩ <;> rfl
  have nd := scAre.nd
  have hr2 : Room 2 _ := hr
  have step : ∀ {H' : Hp} {x : V} {b : Bool} {Y : Bool → Hp → Prop} {E : XK}, El K H' x b → (∀ H2, Ex H' H2 → Y b H2) → spStepC K [x] H' (fun v H2 => ∃ c, v = .bl c ∧ Y c H2) E := fun h y => by
    rcases h with ⟨d, h1, h2, rfl⟩ | ⟨t, h1, h2, rfl⟩
    · exact .inl ⟨_, d, rfl, h1, h2, fun H2 x2 => ⟨_, rfl, y H2 x2⟩⟩
    · exact .inr ⟨_, t, rfl, h1 _ (Ex.refl _), h2, _, rfl, y _ (Ex.refl _)⟩
  rcases h with ⟨v, t, rfl, ht, hk, q⟩ | ⟨a, ws, bs, rfl, ha, he, le, q⟩ | ⟨a, ws, bs, rfl, ha, he, le, q⟩
  · refine ⟨_, pss_cons (ps_if (pt_not (pt_val (pe_callB call_isiT rfl B.isi bt_isi (pa_cons (pv 0) (pa_cons (pe_tup (pa_cons (pe_bltn (v := .ty "list") rfl B.list bt_list rfl) (pa_cons (pe_bltn (v := .ty "tuple") rfl B2.tuple bt_tuple rfl) pa_nil))) pa_nil))))) (pss_one (ps_ret pe_bl)) pss_nil)
      (pss_one ps_never), ?_⟩
    refine ⟨_, rfl, nle' (by show 2 ≤ 1000; decide), fun T hT => ⟨_, T, _, _, _, false, rfl, upd_same, .cons (.ty _) (.cons (.ty _) .nil), ht _ (Ex.new hT), hk, _, rfl, ?_⟩⟩
    exact iteT (q _ (Ex.new hT))
  · refine ⟨_, pss_cons (ps_if (pt_not (pt_val (pe_callB call_isiT rfl B.isi bt_isi (pa_cons (pv 0) (pa_cons (pe_tup (pa_cons (pe_bltn (v := .ty "list") rfl B.list bt_list rfl) (pa_cons (pe_bltn (v := .ty "tuple") rfl B2.tuple bt_tuple rfl) pa_nil))) pa_nil))))) (pss_one (ps_ret pe_bl)) pss_nil)
      (pss_one (ps_ret (pe_cmpR (op_eqNil (Nat.lt_of_le_of_lt (Nat.le_add_right _ 64) hr.units)) (pe_lc (own := [("step", 1)]) (g := gName 1) rfl nd (pi_list (pv 0)) (blkOk_by (N := ["thing", "step"]) (sc := defScope sAre) (by decide +kernel)) (fun _ _ _ _ _ => pg_name (i := 1) nd rfl (Or.inl rfl))
        (fun _ _ _ _ _ => pts_one (pt_not (pt_val (pe_call St.g hr2 rfl St.m St.k St.b .nil pass0 (pa_cons (pv 1) pa_nil))))) (fun _ _ _ _ _ => pv 1)) (pe_lst pa_nil) (nomark _)))), ?_⟩
    refine ⟨_, rfl, nle' (by show 2 ≤ 1000; decide), fun T hT => ⟨_, T, _, _, _, true, rfl, upd_same, .cons (.ty _) (.cons (.ty _) .nil), .base (.lst ((Ex.new hT) _ _ ha)), kit2 kll klt, _, rfl, ?_⟩⟩
    have xT := Ex.new (o := HO.tup [.ty "list", .ty "tuple"]) hT
    generalize upd H T (HO.tup [.ty "list", .ty "tuple"]) = H1 at xT ⊢
    refine ⟨_, rfl, a, rfl, ⟨_, SqL.of (xT _ _ ha)⟩, fun D hD => ?_⟩
    refine lc_list (xs := ws) (fun i H' => Ex H1 H' ∧ ∃ acc, H' D = some (.lst acc) ∧ acc.length = ((bs.take i).filter (fun b => !b)).length ∧ acc.length ≤ i) ⟨Ex.new hD, [], upd_same, rfl, Nat.le_refl _⟩ (fun i H' _ p => SqL.of (p.1 _ _ (xT _ _ ha))) (fun i x H' hx p => ?_) (fun H' p => ?_)
    · obtain ⟨p1, acc, p2, p3, p4⟩ := p
      obtain ⟨b, hb, hx2⟩ := he.2 i x hx
      refine ⟨rfl, _, rfl, step (hx2.mono (xT.trans p1)) fun H2 x2 => ?_⟩
      have li := (List.getElem?_eq_some_iff.mp hx).1
      cases b with
      | true =>
        refine iteF ⟨p1.trans x2, acc, x2 _ _ p2, ?_, by omega⟩
        rw [all_take hb, p3]
        simp
      | false =>
        have l1 : acc.length < sizeLine := by rw [sizeLine_eq]; omega
        refine iteT ⟨_, rfl, acc, x2 _ _ p2, l1, (p1.trans x2).mut hD, _, upd_same, ?_, by simp; omega⟩
        rw [all_take hb, List.length_append, List.length_append, p3]
        simp
    · obtain ⟨p1, acc, p2, p3, p4⟩ := p
      have lb : bs.length = ws.length := he.1.symm
      refine ⟨nle' (by show 0 ≤ 1000; decide), fun l hl => ⟨D, l, acc, rfl, rfl, (Ex.new hl) _ _ p2, upd_same, ?_⟩⟩
      have e : acc.isEmpty = bs.all id := by
        rw [← lb, List.take_length] at p3
        rw [← no_false]
        cases acc with
        | nil => cases hf : bs.filter (fun b => !b) with
          | nil => rfl
          | cons y ys => rw [hf] at p3; simp at p3
        | cons z zs => cases hf : bs.filter (fun b => !b) with
          | nil => rw [hf] at p3; simp at p3
          | cons y ys => rfl
      rw [e]
      exact q _ (xT.trans (p1.trans (Ex.new hl)))
  · refine ⟨_, pss_cons (ps_if (pt_not (pt_val (pe_callB call_isiT rfl B.isi bt_isi (pa_cons (pv 0) (pa_cons (pe_tup (pa_cons (pe_bltn (v := .ty "list") rfl B.list bt_list rfl) (pa_cons (pe_bltn (v := .ty "tuple") rfl B2.tuple bt_tuple rfl) pa_nil))) pa_nil))))) (pss_one (ps_ret pe_bl)) pss_nil)
      (pss_one (ps_ret (pe_cmpR (op_eqNil (Nat.lt_of_le_of_lt (Nat.le_add_right _ 64) hr.units)) (pe_lc (own := [("step", 1)]) (g := gName 1) rfl nd (pi_tup (pv 0)) (blkOk_by (N := ["thing", "step"]) (sc := defScope sAre) (by decide +kernel)) (fun _ _ _ _ _ => pg_name (i := 1) nd rfl (Or.inl rfl))
        (fun _ _ _ _ _ => pts_one (pt_not (pt_val (pe_call St.g hr2 rfl St.m St.k St.b .nil pass0 (pa_cons (pv 1) pa_nil))))) (fun _ _ _ _ _ => pv 1)) (pe_lst pa_nil) (nomark _)))), ?_⟩
    refine ⟨_, rfl, nle' (by show 2 ≤ 1000; decide), fun T hT => ⟨_, T, _, _, _, true, rfl, upd_same, .cons (.ty _) (.cons (.ty _) .nil), .base (.tup ((Ex.new hT) _ _ ha)), kit2 ktl ktt, _, rfl, ?_⟩⟩
    have xT := Ex.new (o := HO.tup [.ty "list", .ty "tuple"]) hT
    generalize upd H T (HO.tup [.ty "list", .ty "tuple"]) = H1 at xT ⊢
    refine ⟨_, rfl, a, rfl, ⟨_, SqT.of (xT _ _ ha)⟩, fun D hD => ?_⟩
    refine lc_tup (xs := ws) (fun i H' => Ex H1 H' ∧ ∃ acc, H' D = some (.lst acc) ∧ acc.length = ((bs.take i).filter (fun b => !b)).length ∧ acc.length ≤ i) ⟨Ex.new hD, [], upd_same, rfl, Nat.le_refl _⟩ (fun i H' _ p => SqT.of (p.1 _ _ (xT _ _ ha))) (fun i x H' hx p => ?_) (fun H' p => ?_)
    · obtain ⟨p1, acc, p2, p3, p4⟩ := p
      obtain ⟨b, hb, hx2⟩ := he.2 i x hx
      refine ⟨rfl, _, rfl, step (hx2.mono (xT.trans p1)) fun H2 x2 => ?_⟩
      have li := (List.getElem?_eq_some_iff.mp hx).1
      cases b with
      | true =>
        refine iteF ⟨p1.trans x2, acc, x2 _ _ p2, ?_, by omega⟩
        rw [all_take hb, p3]
        simp
      | false =>
        have l1 : acc.length < sizeLine := by rw [sizeLine_eq]; omega
        refine iteT ⟨_, rfl, acc, x2 _ _ p2, l1, (p1.trans x2).mut hD, _, upd_same, ?_, by simp; omega⟩
        rw [all_take hb, List.length_append, List.length_append, p3]
        simp
    · obtain ⟨p1, acc, p2, p3, p4⟩ := p
      have lb : bs.length = ws.length := he.1.symm
      refine ⟨nle' (by show 0 ≤ 1000; decide), fun l hl => ⟨D, l, acc, rfl, rfl, (Ex.new hl) _ _ p2, upd_same, ?_⟩⟩
      have e : acc.isEmpty = bs.all id := by
        rw [← lb, List.take_length] at p3
        rw [← no_false]
        cases acc with
        | nil => cases hf : bs.filter (fun b => !b) with
          | nil => rfl
          | cons y ys => rw [hf] at p3; simp at p3
        | cons z zs => cases hf : bs.filter (fun b => !b) with
          | nil => rw [hf] at p3; simp at p3
          | cons y ys => rfl
      rw [e]
      exact q _ (xT.trans (p1.trans (Ex.new hl)))
end
end Sk

/-! A dict is no text. -/
namespace PySem
open PyProof PyProof.Rows
theorem dict_eq_declines_str (l : Addr) (es : Array DictEntry) (ep : Nat) (dd : Option Addr) (sl : Array (Option Value)) (b : Str) (u : Tok) :
    Meets (Builtin.«dict.__eq__» ⟨[.ref l, .str b u], []⟩) (fun _ R s => s.heap.get? l = some { cls := .type "dict", dict := dd, data := .dict es ep, slots := sl } ∧ R (.ok (.ret .notImplemented)) s) :=
  .of_wp fun prog w A R s h => by obtain ⟨hp, g, d, tk, os⟩ := s; obtain ⟨hl, h⟩ := h; have f1 := F.sub_str_dict; wp_walk using wpAny_loadPart' hl; exact ⟨_, rfl, h⟩
theorem str_eq_declines_dict (b : Str) (u : Tok) (l : Addr) (c : Value) (es : Array DictEntry) (ep : Nat) (dd : Option Addr) (sl : Array (Option Value)) :
    Meets (Builtin.«str.__eq__» ⟨[.str b u, .ref l], []⟩) (fun _ R s => s.heap.get? l = some { cls := c, dict := dd, data := .dict es ep, slots := sl } ∧ R (.ok (.ret .notImplemented)) s) :=
  .of_wp fun prog w A R s h => by obtain ⟨hp, g, d, tk, os⟩ := s; obtain ⟨hl, h⟩ := h; wp_walk using wpAny_loadPart' hl, wpAny_load hl; exact ⟨_, rfl, h⟩
end PySem

namespace Sk
open PySem PySem.Spec PyProof.Rows L2 Evl
theorem rc_dict_str {A : Around} {s : Shared} {l : Addr} {es : Array DictEntry} {ep : Nat} {dd : Option Addr} {sl : Array (Option Value)} (b : Str) (u : Tok) (ho : s.heap.get? l = some { cls := .type "dict", dict := dd, data := .dict es ep, slots := sl }) (hu : A.units < cLine) : SeqAt.RcAt A s (.ref l) (.str b u) false := fun prog w E Q h =>
  SeqAt.rc_eq_decline_or (k := false) ⟨_, ho, rfl⟩ (typeIs_str s b u) (by decide) F.sub_str_dict F.slot_dict_eq F.slot_str_eq_refl
    (fun _ hq => call_meets F.slot_dict_eq ⟨_, ho, rfl⟩ F.entry_dict_eq (F.args_dict_eq_2 _ _) (dict_eq_declines_str l es ep dd sl b u) ⟨ho, hq⟩)
    (fun _ hq => call_meets F.slot_str_eq_refl (typeIs_str s b u) F.entry_str_eq (F.args_str_eq_2 _ _) (str_eq_declines_dict b u l (.type "dict") es ep dd sl) ⟨ho, hq⟩)
    (fun _ hq => wpAny_of_eq (rfl : isSame (.ref l) (.str b u) = pure false) hq) (.inr hu) h
section
variable {X : Cx}
def isZ : PyData → Str → Bool
  | .str w, z => decide (w = z)
  | _, _ => false
/-- data == a text -/
def rEqZ : R2 := fun x y H Q => ∃ d z, Dq H x d ∧ y = .str z ∧ Q (.bl (isZ d z)) H
theorem op_eqZ (hu : X.A.units < cLine) : OpR X (compareOp .Eq) rEqZ := by
  intro pins s σ H x y v u Q I rx ry h
  obtain ⟨d, z, hd, rfl, q⟩ := h
  obtain ⟨t, rfl⟩ := ry
  have fin : ∀ b : Bool, b = isZ d z → EP X pins σ Q (Value.bool b) s := fun b e => ⟨.bl b, H, I, rfl, by rw [e]; exact q⟩
  cases hd with
  | non => cases (show v = Value.none from rx); exact SeqAt.RcAt.none_str z t _ _ _ _ (fin _ rfl)
  | bl b => cases (show v = Value.bool b from rx); exact SeqAt.RcAt.bool_str b z t _ _ _ _ (fin _ rfl)
  | int i => obtain ⟨t', rfl⟩ := rx; exact SeqAt.RcAt.int_str i t' z t _ _ _ _ (fin _ rfl)
  | str w => obtain ⟨t', rfl⟩ := rx; exact SeqAt.RcAt.str_str w t' z t _ _ _ _ (fin _ (by show (w == z) = decide (w = z); by_cases e : w = z <;> simp [e]))
  | lst e r =>
    cases (show v = Value.ref _ from rx)
    obtain ⟨its, _, p, _⟩ := I.list (SqL.of e)
    exact SeqAt.RcAt.list_str z t p.isList hu _ _ _ _ (fin _ rfl)
  | tup e r =>
    cases (show v = Value.ref _ from rx)
    obtain ⟨its, _, p, _⟩ := I.tuple (SqT.of e)
    exact SeqAt.RcAt.tuple_str z t p hu _ _ _ _ (fin _ rfl)
  | dct e r =>
    cases (show v = Value.ref _ from rx)
    obtain ⟨_, _, vs, _, o, es, ep, h1, h2, h3, _⟩ := I.hok _ _ e
    obtain ⟨cls, dd, data, sl⟩ := o
    cases (show cls = .type "dict" from h2.1)
    cases (show data = .dict es ep from h3)
    exact rc_dict_str z t h1 hu _ _ _ _ (fin _ rfl)
end
end Sk

/-! The law's own word what a step is, of any thing. -/
namespace Sk
open PySem PySem.Spec PyProof.Rows L2 Evl
theorem scIS : FnScope ["thing", "part"] ["thing"] (defScope sIsStep) := ⟨rfl, rfl, rfl, by decide +kernel, rfl, by decide +kernel, by decide +kernel⟩
theorem stD_no {d0 d : PyData} {ds : List PyData} (m : d ∈ ds) (h : sgD d = false) : stD (.tuple (d0 :: ds)) = false := by
  match ds, m with
  | [a], m =>
    cases List.mem_singleton.mp m
    cases d0 with
    | str w => show (decide (w = "keep" ∨ w = "put" ∨ w = "drop") && sgD d) = false; rw [h]; simp
    | _ => rfl
  | [a, b], m =>
    cases d0 with
    | str w => cases a with
      | str y1 => cases b with
        | str y2 =>
          show (decide (w = "swap") && (sgD (.str y1) && (sgD (.str y2) && decide (y1 ≠ y2)))) = false
          simp only [List.mem_cons, List.not_mem_nil, or_false] at m
          rcases m with rfl | rfl <;> rw [h] <;> simp
        | _ => rfl
      | _ => cases b <;> rfl
    | _ => cases a <;> cases b <;> rfl
  | a :: b :: c :: r, m => cases d0 <;> cases a <;> cases b <;> rfl
theorem stD_len {ds : List PyData} (h : ds.length ≠ 2) (h' : ds.length ≠ 3) : stD (.tuple ds) = false := by
  match ds with
  | [] => rfl
  | [a] => cases a <;> rfl
  | [a, b] => exact absurd rfl h
  | [a, b, c] => exact absurd rfl h'
  | a :: b :: c :: d :: r => cases a <;> cases b <;> cases c <;> rfl
theorem isZ_no {d : PyData} {z : Str} (h : isZ d z = true) : d = .str z := by
  cases d with
  | str w => rw [of_decide_eq_true (show decide (w = z) = true from h)]
  | _ => cases h
def spIS2 : Sp := fun vs H Q _ => ∃ (v : V) (d : PyData), vs = [v] ∧ Dq H v d ∧ Fts d ∧ ∀ H', Ex H H' → Q (.bl (stD d)) H'
section
variable {P : Program} {w : World} {K : PySem.W.Frag} {mg : Str → Option Value} {base : Heap} {f g fD fC : Addr} {fd gd dD dC : FuncData}
theorem ok_isB {k : Nat} (F : Fun K "_law_is_step" "_law_is_step" sIsStep f fd) (B : Blt mg) (B2 : Blt2 mg) : FnOk P w K mg base CX0 (k + 1) f fd ["thing"] spIS2 := by
  refine F.ok scIS (fun vs H Q E h => ?_) (fun cdv A outer s H vs Q E hr h => ?_)
  · obtain ⟨_, _, rfl, _⟩ := h
    rfl
  have nd := scIS.nd
  have hu : (A.deeper (envOfC "_law_is_step" (defScope sIsStep) s.heap.objs.size f cdv)).units < cLine := Nat.lt_of_le_of_lt (Nat.le_add_right _ 64) hr.units
  obtain ⟨v, d, rfl, hd, hf, q⟩ := h
  refine ⟨_, pss_cons (ps_if (PW.pt (pw_or (pt_not (pt_val (pe_callB call_isD rfl B.isi bt_isi (pa_cons (pv 0) (pa_cons (pe_bltn (v := .ty "tuple") rfl B2.tuple bt_tuple rfl) pa_nil))))) (pw_or1 (pt_cmpR op_notIn_seq (pe_callB call_len_seq rfl B.len PySem.boot_len (pa_cons (pv 0) pa_nil)) (pe_tup (pa_cons pe_int (pa_cons pe_int pa_nil))) (by with_unfolding_all rfl))))) (pss_one (ps_ret pe_bl)) pss_nil)
    (pss_cons (ps_for PassesOwn.never rfl (pi_tup (pe_slice sl_tup (pv 0) (po_some pe_int) po_none)) (pg_name (i := 1) nd rfl (Or.inl rfl))
      (pss_one (ps_if (PW.pt (pw_or (pt_not (pt_val (pe_callB call_isD rfl B.isi bt_isi (pa_cons (pv 1) (pa_cons (pe_bltn (v := .ty "str") rfl B.str bt_str rfl) pa_nil))))) (pw_or1 (pt_cmpR op_ne (pe_callB call_len_str rfl B.len PySem.boot_len (pa_cons (pv 1) pa_nil)) pe_int (nomark _))))) (pss_one (ps_ret pe_bl)) pss_nil)))
    (pss_cons (ps_if (pt_cmpR op_eq (pe_callB call_len_seq rfl B.len PySem.boot_len (pa_cons (pv 0) pa_nil)) pe_int (nomark _)) (pss_one (ps_ret (pe_and (pe_cmpR (op_eqZ hu) (pe_ix ix_tup (pv 0) pe_int (fun _ _ => rfl)) pe_str (nomark _)) (pe_one (pe_cmpR op_ne (pe_ix ix_tup (pv 0) pe_int (fun _ _ => rfl)) (pe_ix ix_tup (pv 0) pe_int (fun _ _ => rfl)) (nomark _)))))) pss_nil)
    (pss_one (ps_ret (pe_or (pe_cmpR (op_eqZ hu) (pe_ix ix_tup (pv 0) pe_int (fun _ _ => rfl)) pe_str (nomark _)) (pe_or (pe_cmpR (op_eqZ hu) (pe_ix ix_tup (pv 0) pe_int (fun _ _ => rfl)) pe_str (nomark _)) (pe_one (pe_cmpR (op_eqZ hu) (pe_ix ix_tup (pv 0) pe_int (fun _ _ => rfl)) pe_str (nomark _))))))))), ?_⟩
  obtain ⟨b, kb, h1, h2⟩ := kitT d
  refine ⟨_, rfl, _, _, _, _, rfl, hd, kb, b, rfl, ?_⟩
  cases b with
  | false =>
    have e : stD d = false := by
      cases d with
      | tuple x => exact absurd rfl (h2 rfl x)
      | _ => rfl
    have := q H (Ex.refl _)
    rw [e] at this
    exact iteT this
  | true =>
  obtain ⟨ds, rfl⟩ := h1 rfl
  obtain ⟨p, ws, rfl, hp, hw⟩ := tup_inv hd
  have lw : ws.length = ds.length := hw.length
  refine iteF ⟨_, rfl, p, _, rfl, .inr (SqT.of hp), nle' (by show 2 ≤ 1000; decide), fun t nt => ⟨t, _, rfl, .inr (SqT.of upd_same), rfl, rfl, _, rfl, ?_⟩⟩
  have xt := Ex.new (o := HO.tup [.int 2, .int 3]) nt
  generalize upd H t (HO.tup [.int 2, .int 3]) = H1 at xt ⊢
  have hp1 := xt _ _ hp
  have ein : inV (V.int (ws.length : Int)) [V.int 2, .int 3] = decide (ds.length = 2 ∨ ds.length = 3) := by
    rw [lw]
    by_cases k2 : ds.length = 2
    · rw [k2]; decide
    by_cases k3 : ds.length = 3
    · rw [k3]; decide
    rw [decide_eq_false (by omega)]
    have n2 : ¬ (ds.length : Int) = 2 := by omega
    have n3 : ¬ (ds.length : Int) = 3 := by omega
    simp [inV, eqV, n2, n3, Ne.symm n2, Ne.symm n3]
  by_cases ln : ds.length = 2 ∨ ds.length = 3
  case neg =>
    refine (if_pos (by rw [ein, decide_eq_false ln]; rfl)).mpr ?_
    have := q H1 xt
    rw [stD_len (fun z => ln (.inl z)) (fun z => ln (.inr z))] at this
    exact this
  refine (if_neg (by rw [ein, decide_eq_true ln]; simp)).mpr ?_
  obtain ⟨d0, dr, rfl⟩ : ∃ d0 dr, ds = d0 :: dr := by
    cases ds with
    | nil => simp at ln
    | cons a b => exact ⟨a, b, rfl⟩
  obtain ⟨v0, wr, rfl, h0, hwr⟩ := all_cons hw
  have lr : wr.length = dr.length := hwr.length
  have cut : cutV (v0 :: wr) (some 1) none = wr := by
    have : dr.length = 1 ∨ dr.length = 2 := by simp at ln; omega
    simp [cutV, HT.sIx]
  refine ⟨_, rfl, 1, rfl, p, _, rfl, SqT.of hp1, (fun z => ?_), fun t2 n2 => ?_⟩
  · have := z.1
    simp [HT.sIx] at this
  rw [cut]
  have x2 := Ex.new (o := HO.tup wr) n2
  have h2' : upd H1 t2 (HO.tup wr) t2 = some (.tup wr) := upd_same
  generalize upd H1 t2 (HO.tup wr) = H2 at x2 h2' ⊢
  have hw2 : DqAll H2 wr dr := hwr.mono (xt.trans x2)
  refine ⟨t2, rfl, ⟨_, SqT.of h2'⟩, for_tup (xs := wr) (fun i σ H' => Ex H2 H' ∧ (∀ e ∈ dr.take i, sgD e = true) ∧ ∃ y, σ = [some (.ref p), y]) ⟨Ex.refl _, (by simp), _, rfl⟩ (fun i σ H' _ p => SqT.of (p.1 _ _ h2')) (fun i x σ H' hx pp => ?_) (fun σ H3 pp => ?_)⟩
  · obtain ⟨z1, zs, y, rfl⟩ := pp
    obtain ⟨e, he, hq⟩ := hw2.get hx
    have hq := hq.mono z1
    have me := List.mem_of_getElem? he
    have fe : Ft e := hf _ rfl e (List.mem_cons_of_mem _ me)
    have bad : sgD e = false → Q (.bl false) H' := fun z => by
      have := q H' (xt.trans (x2.trans z1))
      rwa [stD_no me z] at this
    obtain ⟨b, kb, g1, g2⟩ := kitS e
    refine ⟨_, rfl, _, _, _, _, rfl, hq, kb, b, rfl, ?_⟩
    cases b with
    | false => exact iteT (bad (sgD_no (g2 rfl)))
    | true =>
      obtain ⟨u, rfl⟩ := g1 rfl
      cases hq
      refine iteF ⟨_, rfl, _, rfl, line_le (by have := fe u rfl; omega), rfl, _, rfl, ?_⟩
      by_cases l1 : u.length = 1
      · refine iteNS (by rw [l1]; rfl) ⟨z1, fun e' m => ?_, _, rfl⟩
        rw [take_snoc he] at m
        rcases List.mem_append.mp m with m | m
        · exact zs e' m
        · cases List.mem_singleton.mp m; exact decide_eq_true l1
      · have nb : ¬ (V.int ((u.length : Nat) : Int) = V.int 1) := fun z => l1 (by injection z with z; omega)
        rw [decide_eq_false nb]
        exact iteT (bad (decide_eq_false l1))
  obtain ⟨z1, zs, y, rfl⟩ := pp
  rw [List.take_of_length_le (by omega)] at zs
  have X3 := xt.trans (x2.trans z1)
  have hT := SqT.of (K := K) (X3 _ _ hp)
  have h03 := h0.mono X3
  match dr, hwr with
  | [d1], hwr =>
    obtain ⟨v1, r1, rfl, h1', hwr⟩ := all_cons hwr
    cases all_nil hwr
    have s1 : sgD d1 = true := zs d1 (by simp)
    refine ⟨_, rfl, p, _, rfl, .inr hT, rfl, _, rfl, iteF ?_⟩
    refine ⟨_, rfl, p, _, _, _, rfl, rfl, hT, atI_nat (j := 0) rfl, d0, _, h03, rfl, _, rfl, ?_⟩
    have e : stD (.tuple [d0, d1]) = (isZ d0 "keep" || (isZ d0 "put" || isZ d0 "drop")) := by
      cases d0 with
      | str w =>
        show (decide (w = "keep" ∨ w = "put" ∨ w = "drop") && sgD d1) = (decide (w = "keep") || (decide (w = "put") || decide (w = "drop")))
        rw [s1, Bool.and_true]
        by_cases k1 : w = "keep" <;> by_cases k2 : w = "put" <;> by_cases k3 : w = "drop" <;> simp [k1, k2, k3]
      | _ => cases d1 <;> rfl
    have qq := q H3 X3
    rw [e] at qq
    cases k1 : isZ d0 "keep" with
    | true =>
      rw [k1] at qq
      exact (if_pos rfl).mpr qq
    | false =>
      rw [k1] at qq
      refine (if_neg (by decide)).mpr ⟨_, rfl, p, _, _, _, rfl, rfl, hT, atI_nat (j := 0) rfl, d0, _, h03, rfl, _, rfl, ?_⟩
      cases k2 : isZ d0 "put" with
      | true =>
        rw [k2] at qq
        exact (if_pos rfl).mpr qq
      | false =>
        rw [k2] at qq
        exact (if_neg (by decide)).mpr ⟨_, rfl, p, _, _, _, rfl, rfl, hT, atI_nat (j := 0) rfl, d0, _, h03, rfl, qq⟩
  | [d1, d2], hwr =>
    obtain ⟨v1, r1, rfl, h1', hwr⟩ := all_cons hwr
    obtain ⟨v2, r2, rfl, h2'', hwr⟩ := all_cons hwr
    cases all_nil hwr
    have s1 : sgD d1 = true := zs d1 (by simp)
    have s2 : sgD d2 = true := zs d2 (by simp)
    refine ⟨_, rfl, p, _, rfl, .inr hT, rfl, _, rfl, iteT ?_⟩
    refine ⟨_, rfl, p, _, _, _, rfl, rfl, hT, atI_nat (j := 0) rfl, d0, _, h03, rfl, _, rfl, ?_⟩
    cases d1 with
    | str y1 => cases d2 with
      | str y2 =>
        cases h1'; cases h2''
        have e : stD (.tuple [d0, .str y1, .str y2]) = (isZ d0 "swap" && !decide (V.str y1 = V.str y2)) := by
          have e2 : (!decide (V.str y1 = V.str y2)) = decide (y1 ≠ y2) := by
            by_cases yy : y1 = y2
            · rw [yy]; simp
            · rw [decide_eq_true yy, decide_eq_false (fun z => yy (by injection z))]; rfl
          rw [e2]
          cases d0 with
          | str w =>
            show (decide (w = "swap") && (sgD (.str y1) && (sgD (.str y2) && decide (y1 ≠ y2)))) = (decide (w = "swap") && decide (y1 ≠ y2))
            rw [s1, s2]; rfl
          | _ => rfl
        have qq := q H3 X3
        rw [e] at qq
        cases k1 : isZ d0 "swap" with
        | true =>
          rw [k1] at qq
          exact iteT ⟨_, rfl, p, _, _, _, rfl, rfl, hT, atI_nat (j := 1) rfl, _, rfl, p, _, _, _, rfl, rfl, hT, atI_nat (j := 2) rfl, rfl, qq⟩
        | false =>
          rw [k1] at qq
          exact (if_neg (by decide)).mpr qq
      | _ => cases s2
    | _ => cases s1
  | [], _ => simp at ln
  | a :: b :: c :: r, _ => simp at ln
def spISX (K : PySem.W.Frag) : Sp := fun vs H Q _ => ∃ (v : V) (t : Value), vs = [v] ∧ TyX K H v t ∧ PySem.W.kitOne K t (.type "tuple") = some false ∧ Q (.bl false) H
theorem ok_isX {k : Nat} (F : Fun K "_law_is_step" "_law_is_step" sIsStep f fd) (B : Blt mg) (B2 : Blt2 mg) : FnOk P w K mg base CX0 (k + 1) f fd ["thing"] (spISX K) := by
  refine F.ok scIS (fun vs H Q E h => ?_) (fun cdv A outer s H vs Q E hr h => ?_)
  · obtain ⟨_, _, rfl, _⟩ := h
    rfl
  have nd := scIS.nd
  obtain ⟨v, t, rfl, ht, hk, q⟩ := h
  refine ⟨_, pss_cons (ps_if (PW.pt (pw_or (pt_not (pt_val (pe_callB call_isi rfl B.isi bt_isi (pa_cons (pv 0) (pa_cons (pe_bltn (v := .ty "tuple") rfl B2.tuple bt_tuple rfl) pa_nil))))) (pw_or1 (pt_cmpR op_notIn_seq (pe_callB call_len_seq rfl B.len PySem.boot_len (pa_cons (pv 0) pa_nil)) (pe_tup (pa_cons pe_int (pa_cons pe_int pa_nil))) (by with_unfolding_all rfl))))) (pss_one (ps_ret pe_bl)) pss_nil)
    (pss_cons ps_never (pss_cons ps_never (pss_one ps_never))), ?_⟩
  exact ⟨_, rfl, v, .ty "tuple", t, _, false, rfl, .ty _, ht, hk, false, rfl, iteT q⟩
end
end Sk

/-! Steps turned round, put together. -/
namespace Sk
open PySem PySem.Spec PyProof.Rows L2 Evl
theorem scTurn : FnScope ["step"] ["step"] (defScope sTurn) := ⟨rfl, rfl, rfl, by decide +kernel, rfl, by decide +kernel, by decide +kernel⟩
theorem scComp : FnScope ["first", "second"] ["first", "second"] (defScope sComp) := ⟨rfl, rfl, rfl, by decide +kernel, rfl, by decide +kernel, by decide +kernel⟩
def spTurn : Sp := fun vs H Q _ => ∃ (v : V) (e : Ed Nat), vs = [v] ∧ Dq H v (edD e) ∧ ∀ u H', Ex H H' → Dq H' u (edD e.turn) → Q u H'
def spComp : Sp := fun vs H Q _ => ∃ (v v' : V) (x y : Ed Nat), vs = [v, v'] ∧ Dq H v (edD x) ∧ Dq H v' (edD y) ∧ x.isDrop = false ∧ y.isPut = false ∧ ∀ p H' ws, Ex H H' → H p = none → H' p = some (.lst ws) → DqAll H' ws ((x.comp y).map edD) → Q (.ref p) H'
section
variable {P : Program} {w : World} {K : PySem.W.Frag} {mg : Str → Option Value} {base : Heap} {f g : Addr} {fd gd : FuncData}
theorem ok_turn {k : Nat} (F : Fun K "turned" "turned" sTurn f fd) : FnOk P w K mg base CX0 (k + 1) f fd ["step"] spTurn := by
  refine F.ok scTurn (fun vs H Q E h => ?_) (fun cdv A outer s H vs Q E hr h => ?_)
  · obtain ⟨_, _, rfl, _⟩ := h
    rfl
  obtain ⟨v, e, rfl, hd, q⟩ := h
  have nd := scTurn.nd
  refine ⟨_, pss_cons (ps_if (pt_cmpR op_eq (pe_ix ix_tup (pv 0) pe_int (fun _ _ => rfl)) pe_str (nomark _)) (pss_one (ps_ret (pe_tup (pa_cons pe_str (pa_cons (pe_ix ix_tup (pv 0) pe_int (fun _ _ => rfl)) pa_nil))))) pss_nil)
    (pss_cons (ps_if (pt_cmpR op_eq (pe_ix ix_tup (pv 0) pe_int (fun _ _ => rfl)) pe_str (nomark _)) (pss_one (ps_ret (pe_tup (pa_cons pe_str (pa_cons (pe_ix ix_tup (pv 0) pe_int (fun _ _ => rfl)) pa_nil))))) pss_nil)
    (pss_one (ps_ret (pe_ifExp (pt_cmpR op_eq (pe_ix ix_tup (pv 0) pe_int (fun _ _ => rfl)) pe_str (nomark _)) (pe_tup (pa_cons pe_str (pa_cons (pe_ix ix_tup (pv 0) pe_int (fun _ _ => rfl)) (pa_cons (pe_ix ix_tup (pv 0) pe_int (fun _ _ => rfl)) pa_nil)))) (pv 0))))), ?_⟩
  obtain ⟨a, rfl, ha⟩ := ed_inv hd
  have hT : SqT K H a (edV e) := SqT.of ha
  cases e with
  | put c =>
    refine ⟨_, rfl, a, _, _, _, rfl, rfl, hT, atI_nat (j := 0) rfl, rfl, _, rfl, iteT ?_⟩
    exact ⟨_, rfl, a, _, _, _, rfl, rfl, hT, atI_nat (j := 1) rfl, nle' (by show 2 ≤ 1000; decide), fun p np => q _ _ (Ex.new np) (ed_of (e := .drop c) upd_same)⟩
  | drop c =>
    refine ⟨_, rfl, a, _, _, _, rfl, rfl, hT, atI_nat (j := 0) rfl, rfl, _, rfl, iteF ?_⟩
    refine ⟨_, rfl, a, _, _, _, rfl, rfl, hT, atI_nat (j := 0) rfl, rfl, _, rfl, iteT ?_⟩
    exact ⟨_, rfl, a, _, _, _, rfl, rfl, hT, atI_nat (j := 1) rfl, nle' (by show 2 ≤ 1000; decide), fun p np => q _ _ (Ex.new np) (ed_of (e := .put c) upd_same)⟩
  | keep c =>
    refine ⟨_, rfl, a, _, _, _, rfl, rfl, hT, atI_nat (j := 0) rfl, rfl, _, rfl, iteF ?_⟩
    refine ⟨_, rfl, a, _, _, _, rfl, rfl, hT, atI_nat (j := 0) rfl, rfl, _, rfl, iteF ?_⟩
    refine ⟨_, rfl, a, _, _, _, rfl, rfl, hT, atI_nat (j := 0) rfl, rfl, _, rfl, iteF ?_⟩
    exact ⟨_, rfl, q _ _ (Ex.refl _) hd⟩
  | swap x y =>
    refine ⟨_, rfl, a, _, _, _, rfl, rfl, hT, atI_nat (j := 0) rfl, rfl, _, rfl, iteF ?_⟩
    refine ⟨_, rfl, a, _, _, _, rfl, rfl, hT, atI_nat (j := 0) rfl, rfl, _, rfl, iteF ?_⟩
    refine ⟨_, rfl, a, _, _, _, rfl, rfl, hT, atI_nat (j := 0) rfl, rfl, _, rfl, iteT ?_⟩
    exact ⟨_, rfl, a, _, _, _, rfl, rfl, hT, atI_nat (j := 2) rfl, _, rfl, a, _, _, _, rfl, rfl, hT, atI_nat (j := 1) rfl, nle' (by show 3 ≤ 1000; decide), fun p np => q _ _ (Ex.new np) (ed_of (e := .swap y x) upd_same)⟩
theorem ok_comp {k : Nat} (F : Fun K "composed" "composed" sComp f fd) : FnOk P w K mg base CX0 (k + 1) f fd ["first", "second"] spComp := by
  refine F.ok scComp (fun vs H Q E h => ?_) (fun cdv A outer s H vs Q E hr h => ?_)
  · obtain ⟨_, _, _, _, rfl, _⟩ := h
    rfl
  obtain ⟨v, v', x, y, rfl, hx, hy, dx, py, q⟩ := h
  have nd := scComp.nd
  refine ⟨_, pss_cons (ps_if (pt_cmpR op_eq (pe_ix ix_tup (pv 0) pe_int (fun _ _ => rfl)) pe_str (nomark _)) (pss_one (ps_ret (pe_lst (pa_cons (pv 1) pa_nil)))) pss_nil)
    (pss_cons (ps_if (pt_cmpR op_eq (pe_ix ix_tup (pv 1) pe_int (fun _ _ => rfl)) pe_str (nomark _)) (pss_one (ps_ret (pe_lst (pa_cons (pv 0) pa_nil)))) pss_nil)
    (pss_cons (ps_if (pt_cmpR op_eq (pe_ix ix_tup (pv 0) pe_int (fun _ _ => rfl)) pe_str (nomark _)) (pss_one (ps_ret (pe_ifExp (pt_cmpR op_eq (pe_ix ix_tup (pv 1) pe_int (fun _ _ => rfl)) pe_str (nomark _)) (pe_lst pa_nil)
        (pe_lst (pa_cons (pe_tup (pa_cons pe_str (pa_cons (pe_ix ix_tup (pv 1) pe_int (fun _ _ => rfl)) pa_nil))) pa_nil))))) pss_nil)
    (pss_cons (ps_if (pt_cmpR op_eq (pe_ix ix_tup (pv 1) pe_int (fun _ _ => rfl)) pe_str (nomark _)) (pss_one (ps_ret (pe_lst (pa_cons (pe_tup (pa_cons pe_str (pa_cons (pe_ix ix_tup (pv 0) pe_int (fun _ _ => rfl)) pa_nil))) pa_nil)))) pss_nil)
    (pss_one (ps_ret (pe_ifExp (pt_cmpR op_eq (pe_ix ix_tup (pv 0) pe_int (fun _ _ => rfl)) (pe_ix ix_tup (pv 1) pe_int (fun _ _ => rfl)) (nomark _)) (pe_lst (pa_cons (pe_tup (pa_cons pe_str (pa_cons (pe_ix ix_tup (pv 0) pe_int (fun _ _ => rfl)) pa_nil))) pa_nil))
        (pe_lst (pa_cons (pe_tup (pa_cons pe_str (pa_cons (pe_ix ix_tup (pv 0) pe_int (fun _ _ => rfl)) (pa_cons (pe_ix ix_tup (pv 1) pe_int (fun _ _ => rfl)) pa_nil)))) pa_nil)))))))), ?_⟩
  obtain ⟨a, rfl, ha⟩ := ed_inv hx
  obtain ⟨b, rfl, hb⟩ := ed_inv hy
  have hT : SqT K H a (edV x) := SqT.of ha
  have hU : SqT K H b (edV y) := SqT.of hb
  have one_ : ∀ (e : Ed Nat), x.comp y = [e] → ∀ p r, H p = none → upd H p (.tup (edV e)) r = none → Q (.ref r) (upd (upd H p (.tup (edV e))) r (.lst [.ref p])) := fun e he p r np nr => by
    have xp := Ex.new (o := HO.tup (edV e)) np
    have xr := Ex.new (o := HO.lst [V.ref p]) nr
    refine q r _ [.ref p] (xp.trans xr) (upd_none nr) upd_same ?_
    rw [he]
    exact .cons (ed_of (xr _ _ upd_same)) .nil
  have old : ∀ (c : Addr) (e : Ed Nat), x.comp y = [e] → Dq H (.ref c) (edD e) → ∀ r, H r = none → Q (.ref r) (upd H r (.lst [.ref c])) := fun c e he hc r nr => by
    have xr := Ex.new (o := HO.lst [V.ref c]) nr
    refine q r _ [.ref c] xr nr upd_same ?_
    rw [he]
    exact .cons (hc.mono xr) .nil
  cases x with
  | drop c => cases dx
  | keep c =>
    refine ⟨_, rfl, a, _, _, _, rfl, rfl, hT, atI_nat (j := 0) rfl, rfl, _, rfl, iteT ?_⟩
    exact ⟨_, rfl, nle' (by show 1 ≤ 1000; decide), fun r nr => old b y rfl hy r nr⟩
  | put c =>
    refine ⟨_, rfl, a, _, _, _, rfl, rfl, hT, atI_nat (j := 0) rfl, rfl, _, rfl, iteF ?_⟩
    cases y with
    | put d => cases py
    | keep d =>
      refine ⟨_, rfl, b, _, _, _, rfl, rfl, hU, atI_nat (j := 0) rfl, rfl, _, rfl, iteT ?_⟩
      exact ⟨_, rfl, nle' (by show 1 ≤ 1000; decide), fun r nr => old a _ rfl hx r nr⟩
    | drop d =>
      refine ⟨_, rfl, b, _, _, _, rfl, rfl, hU, atI_nat (j := 0) rfl, rfl, _, rfl, iteF ?_⟩
      refine ⟨_, rfl, a, _, _, _, rfl, rfl, hT, atI_nat (j := 0) rfl, rfl, _, rfl, iteT ?_⟩
      refine ⟨_, rfl, b, _, _, _, rfl, rfl, hU, atI_nat (j := 0) rfl, rfl, _, rfl, iteT ?_⟩
      exact ⟨nle' (by show 0 ≤ 1000; decide), fun r nr => q r _ [] (Ex.new nr) nr upd_same .nil⟩
    | swap d e =>
      refine ⟨_, rfl, b, _, _, _, rfl, rfl, hU, atI_nat (j := 0) rfl, rfl, _, rfl, iteF ?_⟩
      refine ⟨_, rfl, a, _, _, _, rfl, rfl, hT, atI_nat (j := 0) rfl, rfl, _, rfl, iteT ?_⟩
      refine ⟨_, rfl, b, _, _, _, rfl, rfl, hU, atI_nat (j := 0) rfl, rfl, _, rfl, iteF ?_⟩
      refine ⟨_, rfl, b, _, _, _, rfl, rfl, hU, atI_nat (j := 2) rfl, nle' (by show 2 ≤ 1000; decide), fun p np => ⟨nle' (by show 1 ≤ 1000; decide), fun r nr => one_ (.put e) rfl p r np nr⟩⟩
  | swap c d =>
    refine ⟨_, rfl, a, _, _, _, rfl, rfl, hT, atI_nat (j := 0) rfl, rfl, _, rfl, iteF ?_⟩
    cases y with
    | put d => cases py
    | keep d =>
      refine ⟨_, rfl, b, _, _, _, rfl, rfl, hU, atI_nat (j := 0) rfl, rfl, _, rfl, iteT ?_⟩
      exact ⟨_, rfl, nle' (by show 1 ≤ 1000; decide), fun r nr => old a _ rfl hx r nr⟩
    | drop d' =>
      refine ⟨_, rfl, b, _, _, _, rfl, rfl, hU, atI_nat (j := 0) rfl, rfl, _, rfl, iteF ?_⟩
      refine ⟨_, rfl, a, _, _, _, rfl, rfl, hT, atI_nat (j := 0) rfl, rfl, _, rfl, iteF ?_⟩
      refine ⟨_, rfl, b, _, _, _, rfl, rfl, hU, atI_nat (j := 0) rfl, rfl, _, rfl, iteT ?_⟩
      refine ⟨_, rfl, a, _, _, _, rfl, rfl, hT, atI_nat (j := 1) rfl, nle' (by show 2 ≤ 1000; decide), fun p np => ⟨nle' (by show 1 ≤ 1000; decide), fun r nr => one_ (.drop c) rfl p r np nr⟩⟩
    | swap d' e =>
      refine ⟨_, rfl, b, _, _, _, rfl, rfl, hU, atI_nat (j := 0) rfl, rfl, _, rfl, iteF ?_⟩
      refine ⟨_, rfl, a, _, _, _, rfl, rfl, hT, atI_nat (j := 0) rfl, rfl, _, rfl, iteF ?_⟩
      refine ⟨_, rfl, b, _, _, _, rfl, rfl, hU, atI_nat (j := 0) rfl, rfl, _, rfl, iteF ?_⟩
      refine ⟨_, rfl, a, _, _, _, rfl, rfl, hT, atI_nat (j := 1) rfl, _, rfl, b, _, _, _, rfl, rfl, hU, atI_nat (j := 2) rfl, rfl, _, rfl, ?_⟩
      by_cases z : c = e
      · subst z
        rw [decide_eq_true rfl]
        exact iteT ⟨_, rfl, a, _, _, _, rfl, rfl, hT, atI_nat (j := 1) rfl, nle' (by show 2 ≤ 1000; decide), fun p np => ⟨nle' (by show 1 ≤ 1000; decide), fun r nr => one_ (.keep c) (cs_eq _ _ _) p r np nr⟩⟩
      · rw [decide_eq_false fun q => z (one_inj (by injection q))]
        exact iteF ⟨_, rfl, a, _, _, _, rfl, rfl, hT, atI_nat (j := 1) rfl, _, rfl, b, _, _, _, rfl, rfl, hU, atI_nat (j := 2) rfl, nle' (by show 3 ≤ 1000; decide), fun p np => ⟨nle' (by show 1 ≤ 1000; decide), fun r nr => one_ (.swap c e) (cs_ne z _ _) p r np nr⟩⟩
end
end Sk

/-! Two rows of steps, one behind the other. -/
namespace Sk
open PySem PySem.Spec PyProof.Rows L2 Evl
theorem hd_upd_ {D : Addr} {H : Hp} {o : HO} : Hd D (upd H D o) = Hd D H := by
  funext a
  unfold Hd
  split
  · rfl
  · rename_i n
    rw [upd_ne n]
theorem DqAll.getI {H : Hp} : ∀ {xs ds}, DqAll H xs ds → ∀ {i : Nat} {d : PyData}, ds[i]? = some d → ∃ v, xs[i]? = some v ∧ Dq H v d
  | _, _, .nil, _, _, e => by simp at e
  | _, _, .cons x r, 0, _, e => by simp at e; subst e; exact ⟨_, rfl, x⟩
  | _, _, .cons x r, i + 1, _, e => by
    obtain ⟨v, h1, h2⟩ := r.getI (i := i) (by simpa using e)
    exact ⟨v, by simpa using h1, h2⟩
theorem DqAll.app {H : Hp} : ∀ {xs ds}, DqAll H xs ds → ∀ {ys es}, DqAll H ys es → DqAll H (xs ++ ys) (ds ++ es)
  | _, _, .nil, _, _, y => y
  | _, _, .cons x r, _, _, y => .cons x (r.app y)
def tag : Ed Nat → Str
  | .keep _ => "keep"
  | .put _ => "put"
  | .drop _ => "drop"
  | .swap _ _ => "swap"
theorem tag_drop (e : Ed Nat) : decide (V.str (tag e) = V.str "drop") = e.isDrop := by cases e <;> rfl
theorem tag_put (e : Ed Nat) : decide (V.str (tag e) = V.str "put") = e.isPut := by cases e <;> rfl
theorem edV_tag (e : Ed Nat) : ∃ r, edV e = .str (tag e) :: r := by cases e <;> exact ⟨_, rfl⟩
theorem hd_eds {L : Addr} {H : Hp} {l : List V} (hL : H L = some (.lst l)) : ∀ {cs : List V} {es : List (Ed Nat)}, DqAll H cs (es.map edD) → DqAll (Hd L H) cs (es.map edD)
  | _, [], h => by cases h; exact .nil
  | _, e :: es, h => by
    obtain ⟨v, r, rfl, h1, h2⟩ := all_cons h
    obtain ⟨a, rfl, ha⟩ := ed_inv h1
    exact .cons (ed_of (hd_of (fun z => by subst z; rw [hL] at ha; cases ha) ha)) (hd_eds hL h2)
theorem drop_cons {α : Type} {f : List α} {i : Nat} {x : α} {r : List α} (h : f.drop i = x :: r) : i < f.length ∧ f[i]? = some x ∧ f.drop (i + 1) = r := by
  have l : i < f.length := by
    rcases Nat.lt_or_ge i f.length with z | z
    · exact z
    · rw [List.drop_of_length_le z] at h; cases h
  rw [List.drop_eq_getElem_cons l] at h
  injection h with h1 h2
  exact ⟨l, by rw [List.getElem?_eq_getElem l, h1], h2⟩
abbrev NSum : List Str := ["firsts", "seconds", "found", "at", "place"]
theorem scSumd : FnScope NSum ["firsts", "seconds"] (defScope sSumd) := ⟨rfl, rfl, rfl, by decide +kernel, rfl, by decide +kernel, by decide +kernel⟩
def spSumd : Sp := fun vs H Q _ => ∃ (a b : Addr) (us ws : List V) (f s : List (Ed Nat)), vs = [.ref a, .ref b] ∧ H a = some (.tup us) ∧ DqAll H us (f.map edD) ∧ H b = some (.tup ws) ∧ DqAll H ws (s.map edD) ∧ Mtd f s ∧ f.length + s.length ≤ 100000 ∧
  ∀ p H' xs, Ex H H' → H p = none → H' p = some (.lst xs) → DqAll H' xs ((sumE f s).map edD) → Q (.ref p) H'
section
variable {P : Program} {w : World} {K : PySem.W.Frag} {mg : Str → Option Value} {base : Heap} {f g : Addr} {fd gd : FuncData}
theorem ok_sumd (F : Fun K "summed" "summed" sSumd f fd) (B : Blt mg) (Cm : Lt P w K mg base g gd "composed" ["first", "second"] 1 spComp) : FnOk P w K mg base CX0 2 f fd ["firsts", "seconds"] spSumd := by
  refine F.ok scSumd (fun vs H Q E h => ?_) (fun cdv A outer s H vs Q E hr h => ?_)
  · obtain ⟨_, _, _, _, _, _, rfl, _⟩ := h
    rfl
  obtain ⟨a, b, us, ws, ff, ss, rfl, ha, hf, hb, hs, mt, lm, q⟩ := h
  have nd := scSumd.nd
  have hr1 : Room 1 _ := hr
  refine ⟨_, pss_cons (ps_set (i := 2) nd rfl (Or.inl rfl) (pe_lst pa_nil)) (pss_cons (ps_set (i := 3) nd rfl (Or.inl rfl) pe_int) (pss_cons (ps_set (i := 4) nd rfl (Or.inl rfl) pe_int)
    (pss_cons (ps_while PassesOwn.never (PW.pt (pw_or (pt_cmpR op_lt (pv 3) (pe_callB call_len_seq rfl B.len PySem.boot_len (pa_cons (pv 0) pa_nil)) (nomark _)) (pw_or1 (pt_cmpR op_lt (pv 4) (pe_callB call_len_seq rfl B.len PySem.boot_len (pa_cons (pv 1) pa_nil)) (nomark _)))))
      (pss_one (ps_if (PW.pt (pw_and (pt_cmpR op_lt (pv 3) (pe_callB call_len_seq rfl B.len PySem.boot_len (pa_cons (pv 0) pa_nil)) (nomark _)) (pw_and1 (pt_cmpR op_eq (pe_ix ix_tup (pe_ix ix_tup (pv 0) (pv 3) (fun _ _ => rfl)) pe_int (fun _ _ => rfl)) pe_str (nomark _)))))
        (pss_cons (ps_expr (pe_bm PySem.F.plainAttrs_list PySem.F.slot_list_append PySem.F.type_list_append mt_append (pv 2) (pa_cons (pe_ix ix_tup (pv 0) (pv 3) (fun _ _ => rfl)) pa_nil))) (pss_one (ps_set (i := 3) nd rfl (Or.inl rfl) (pe_op op_add (pv 3) pe_int))))
        (pss_one (ps_if (PW.pt (pw_and (pt_cmpR op_lt (pv 4) (pe_callB call_len_seq rfl B.len PySem.boot_len (pa_cons (pv 1) pa_nil)) (nomark _)) (pw_and1 (pt_cmpR op_eq (pe_ix ix_tup (pe_ix ix_tup (pv 1) (pv 4) (fun _ _ => rfl)) pe_int (fun _ _ => rfl)) pe_str (nomark _)))))
          (pss_cons (ps_expr (pe_bm PySem.F.plainAttrs_list PySem.F.slot_list_append PySem.F.type_list_append mt_append (pv 2) (pa_cons (pe_ix ix_tup (pv 1) (pv 4) (fun _ _ => rfl)) pa_nil))) (pss_one (ps_set (i := 4) nd rfl (Or.inl rfl) (pe_op op_add (pv 4) pe_int))))
          (pss_cons (ps_expr (pe_bm PySem.F.plainAttrs_list PySem.F.slot_list_extend PySem.F.type_list_extend mt_extend (pv 2) (pa_cons (pe_call Cm.g hr1 rfl Cm.m Cm.k Cm.b .nil pass0 (pa_cons (pe_ix ix_tup (pv 0) (pv 3) (fun _ _ => rfl)) (pa_cons (pe_ix ix_tup (pv 1) (pv 4) (fun _ _ => rfl)) pa_nil))) pa_nil)))
          (pss_cons (ps_set (i := 3) nd rfl (Or.inl rfl) (pe_op op_add (pv 3) pe_int)) (pss_one (ps_set (i := 4) nd rfl (Or.inl rfl) (pe_op op_add (pv 4) pe_int))))))))))
    (pss_one (ps_ret (pv 2)))))), ?_⟩
  have lu : us.length = ff.length := by rw [hf.length, List.length_map]
  have lw : ws.length = ss.length := by rw [hs.length, List.length_map]
  refine ⟨nle' (by show 0 ≤ 1000; decide), fun L hL => ?_⟩
  refine ⟨fun m σ H' => ∃ (i j : Nat) (acc : List V) (done : List (Ed Nat)), m = (ff.length - i) + (ss.length - j) ∧ i ≤ ff.length ∧ j ≤ ss.length ∧ σ = [some (.ref a), some (.ref b), some (.ref L), some (.int i), some (.int j)] ∧ Ex H (Hd L H') ∧ H' L = some (.lst acc) ∧
      DqAll (Hd L H') acc (done.map edD) ∧ done ++ sumE (ff.drop i) (ss.drop j) = sumE ff ss ∧ Mtd (ff.drop i) (ss.drop j) ∧ acc.length ≤ i + j, ⟨_, 0, 0, [], [], rfl, Nat.zero_le _, Nat.zero_le _, rfl, fun c o e => hd_of (ne_of_none e hL) (by rw [upd_ne (ne_of_none e hL)]; exact e), upd_same, .nil, rfl, mt, Nat.le_refl _⟩, ?_⟩
  rintro m σ H' ⟨i, j, acc, done, rfl, li, lj, rfl, x0, hL', hacc, hsum, mm, la⟩
  have xx : Ex H H' := x0.trans hd_le
  have hT : SqT K H' a us := SqT.of (xx _ _ ha)
  have hU : SqT K H' b ws := SqT.of (xx _ _ hb)
  have el : ∀ {x : Ed Nat} {r : List (Ed Nat)}, ff.drop i = x :: r → ∃ v p, us[i]? = some v ∧ v = .ref p ∧ Dq H v (edD x) ∧ SqT K H' p (edV x) := fun {x r} h => by
    obtain ⟨v, h1, h2⟩ := hf.getI (i := i) (d := edD x) (by rw [List.getElem?_map, (drop_cons h).2.1]; rfl)
    obtain ⟨p, rfl, h3⟩ := ed_inv h2
    exact ⟨_, p, h1, rfl, h2, SqT.of (xx _ _ h3)⟩
  have er : ∀ {x : Ed Nat} {r : List (Ed Nat)}, ss.drop j = x :: r → ∃ v p, ws[j]? = some v ∧ v = .ref p ∧ Dq H v (edD x) ∧ SqT K H' p (edV x) := fun {x r} h => by
    obtain ⟨v, h1, h2⟩ := hs.getI (i := j) (d := edD x) (by rw [List.getElem?_map, (drop_cons h).2.1]; rfl)
    obtain ⟨p, rfl, h3⟩ := ed_inv h2
    exact ⟨_, p, h1, rfl, h2, SqT.of (xx _ _ h3)⟩
  have lti : i < ff.length → decide ((i : Int) < ((us.length : Nat) : Int)) = true := fun z => decide_eq_true (by omega)
  have ltj : j < ss.length → decide ((j : Int) < ((ws.length : Nat) : Int)) = true := fun z => decide_eq_true (by omega)
  have gei : ff.drop i = [] → decide ((i : Int) < ((us.length : Nat) : Int)) = false := fun z => decide_eq_false (by have := congrArg List.length z; simp at this; omega)
  have gej : ss.drop j = [] → decide ((j : Int) < ((ws.length : Nat) : Int)) = false := fun z => decide_eq_false (by have := congrArg List.length z; simp at this; omega)
  have lsz : acc.length < sizeLine := by rw [sizeLine_eq]; omega
  generalize hF : ff.drop i = FF at mm hsum el gei
  generalize hS : ss.drop j = SS' at mm hsum er gej
  cases mm with
  | nil =>
    refine ⟨_, rfl, _, rfl, a, _, rfl, .inr hT, _, _, rfl, rfl, _, rfl, ?_⟩
    rw [gei rfl]
    refine iteF ⟨_, rfl, _, rfl, b, _, rfl, .inr hU, _, _, rfl, rfl, _, rfl, ?_⟩
    rw [gej rfl]
    refine iteF ⟨_, rfl, q L H' acc xx hL hL' ?_⟩
    rw [← hsum, sumE_nil, List.append_nil]
    exact hacc.mono hd_le
  | @drop c F' _ mm =>
    obtain ⟨v, p, h1, rfl, hd, hp⟩ := el rfl
    obtain ⟨l1, l2, l3⟩ := drop_cons hF
    refine ⟨_, rfl, _, rfl, a, _, rfl, .inr hT, _, _, rfl, rfl, _, rfl, ?_⟩
    rw [lti l1]
    refine iteT ⟨_, fun σ' H'' z => z, ?_⟩
    refine ⟨_, rfl, _, rfl, a, _, rfl, .inr hT, _, _, rfl, rfl, _, rfl, ?_⟩
    rw [lti l1]
    refine iteT ⟨_, rfl, _, rfl, a, _, _, _, rfl, rfl, hT, atI_nat h1, p, _, _, _, rfl, rfl, hp, atI_nat (j := 0) rfl, rfl, _, rfl, iteT ?_⟩
    refine ⟨_, rfl, .inl ⟨rfl, _, SqL.of hL'⟩, _, rfl, _, rfl, a, _, _, _, rfl, rfl, hT, atI_nat h1, L, _, _, rfl, rfl, hL', lsz, ?_⟩
    refine ⟨_, rfl, _, _, rfl, rfl, ?_⟩
    refine ⟨(ff.length - (i + 1)) + (ss.length - j), by omega, i + 1, j, acc ++ [.ref p], done ++ [.drop c], rfl, l1, lj, rfl, by rw [hd_upd_]; exact x0, upd_same, ?_, ?_, ?_, by simp; omega⟩
    · rw [hd_upd_, List.map_append]
      exact hacc.snoc (hd.mono x0)
    · rw [l3, hS, ← hsum, sumE_drop]
      simp
    · rw [l3, hS]; exact mm
  | @put c _ S' hh mm =>
    obtain ⟨v, p, h1, rfl, hd, hp⟩ := er rfl
    obtain ⟨l1, l2, l3⟩ := drop_cons hS
    have nxt : ∀ {N : L2.St → Hp → Prop}, (∀ σ' H'', (∃ m', m' < (ff.length - i) + (ss.length - j) ∧ ∃ (i j : Nat) (acc : List V) (done : List (Ed Nat)), m' = (ff.length - i) + (ss.length - j) ∧ i ≤ ff.length ∧ j ≤ ss.length ∧ σ' = [some (.ref a), some (.ref b), some (.ref L), some (.int i), some (.int j)] ∧ Ex H (Hd L H'') ∧ H'' L = some (.lst acc) ∧
        DqAll (Hd L H'') acc (done.map edD) ∧ done ++ sumE (ff.drop i) (ss.drop j) = sumE ff ss ∧ Mtd (ff.drop i) (ss.drop j) ∧ acc.length ≤ i + j) → N σ' H'') → N [some (.ref a), some (.ref b), some (.ref L), some (.int i), some (.int ((j + 1 : Nat) : Int))] (upd H' L (.lst (acc ++ [.ref p]))) := fun {N} k => by
      refine k _ _ ⟨(ff.length - i) + (ss.length - (j + 1)), by omega, i, j + 1, acc ++ [.ref p], done ++ [.put c], rfl, li, l1, rfl, by rw [hd_upd_]; exact x0, upd_same, ?_, ?_, ?_, by simp; omega⟩
      · rw [hd_upd_, List.map_append]
        exact hacc.snoc (hd.mono x0)
      · rw [l3, hF, ← hsum, Mtd.sum_put c hh]
        simp
      · rw [l3, hF]; exact mm
    cases FF with
    | nil =>
      refine ⟨_, rfl, _, rfl, a, _, rfl, .inr hT, _, _, rfl, rfl, _, rfl, ?_⟩
      rw [gei rfl]
      refine iteF ⟨_, rfl, _, rfl, b, _, rfl, .inr hU, _, _, rfl, rfl, _, rfl, ?_⟩
      rw [ltj l1]
      refine iteT ⟨_, fun σ' H'' z => z, ?_⟩
      refine ⟨_, rfl, _, rfl, a, _, rfl, .inr hT, _, _, rfl, rfl, _, rfl, ?_⟩
      rw [gei rfl]
      refine iteF ?_
      refine ⟨_, rfl, _, rfl, b, _, rfl, .inr hU, _, _, rfl, rfl, _, rfl, ?_⟩
      rw [ltj l1]
      refine iteT ⟨_, rfl, _, rfl, b, _, _, _, rfl, rfl, hU, atI_nat h1, p, _, _, _, rfl, rfl, hp, atI_nat (j := 0) rfl, rfl, _, rfl, iteT ?_⟩
      refine ⟨_, rfl, .inl ⟨rfl, _, SqL.of hL'⟩, _, rfl, _, rfl, b, _, _, _, rfl, rfl, hU, atI_nat h1, L, _, _, rfl, rfl, hL', lsz, ?_⟩
      refine ⟨_, rfl, _, _, rfl, rfl, ?_⟩
      exact nxt fun _ _ z => z
    | cons x FF =>
      have dx := hh x (by simp)
      obtain ⟨v', p', h1', rfl, hd', hp'⟩ := el rfl
      obtain ⟨l1', l2', l3'⟩ := drop_cons hF
      obtain ⟨r, er'⟩ := edV_tag x
      rw [er'] at hp'
      refine ⟨_, rfl, _, rfl, a, _, rfl, .inr hT, _, _, rfl, rfl, _, rfl, ?_⟩
      rw [lti l1']
      refine iteT ⟨_, fun σ' H'' z => z, ?_⟩
      refine ⟨_, rfl, _, rfl, a, _, rfl, .inr hT, _, _, rfl, rfl, _, rfl, ?_⟩
      rw [lti l1']
      refine iteT ⟨_, rfl, _, rfl, a, _, _, _, rfl, rfl, hT, atI_nat h1', p', _, _, _, rfl, rfl, hp', atI_nat (j := 0) rfl, rfl, _, rfl, ?_⟩
      rw [tag_drop, dx]
      refine iteF ?_
      refine ⟨_, rfl, _, rfl, b, _, rfl, .inr hU, _, _, rfl, rfl, _, rfl, ?_⟩
      rw [ltj l1]
      refine iteT ⟨_, rfl, _, rfl, b, _, _, _, rfl, rfl, hU, atI_nat h1, p, _, _, _, rfl, rfl, hp, atI_nat (j := 0) rfl, rfl, _, rfl, iteT ?_⟩
      refine ⟨_, rfl, .inl ⟨rfl, _, SqL.of hL'⟩, _, rfl, _, rfl, b, _, _, _, rfl, rfl, hU, atI_nat h1, L, _, _, rfl, rfl, hL', lsz, ?_⟩
      refine ⟨_, rfl, _, _, rfl, rfl, ?_⟩
      exact nxt fun _ _ z => z
  | @both x y F' S' hx hy e mm =>
    obtain ⟨v, p, h1, rfl, hd, hp⟩ := el rfl
    obtain ⟨l1, l2, l3⟩ := drop_cons hF
    obtain ⟨v', p', h1', rfl, hd', hp'⟩ := er rfl
    obtain ⟨l1', l2', l3'⟩ := drop_cons hS
    obtain ⟨r, eg⟩ := edV_tag x
    rw [eg] at hp
    obtain ⟨r', eg'⟩ := edV_tag y
    rw [eg'] at hp'
    refine ⟨_, rfl, _, rfl, a, _, rfl, .inr hT, _, _, rfl, rfl, _, rfl, ?_⟩
    rw [lti l1]
    refine iteT ⟨_, fun σ' H'' z => z, ?_⟩
    refine ⟨_, rfl, _, rfl, a, _, rfl, .inr hT, _, _, rfl, rfl, _, rfl, ?_⟩
    rw [lti l1]
    refine iteT ⟨_, rfl, _, rfl, a, _, _, _, rfl, rfl, hT, atI_nat h1, p, _, _, _, rfl, rfl, hp, atI_nat (j := 0) rfl, rfl, _, rfl, ?_⟩
    rw [tag_drop, hx]
    refine iteF ?_
    refine ⟨_, rfl, _, rfl, b, _, rfl, .inr hU, _, _, rfl, rfl, _, rfl, ?_⟩
    rw [ltj l1']
    refine iteT ⟨_, rfl, _, rfl, b, _, _, _, rfl, rfl, hU, atI_nat h1', p', _, _, _, rfl, rfl, hp', atI_nat (j := 0) rfl, rfl, _, rfl, ?_⟩
    rw [tag_put, hy]
    refine iteF ?_
    refine ⟨_, rfl, .inl ⟨rfl, _, SqL.of hL'⟩, _, rfl, _, rfl, a, _, _, _, rfl, rfl, hT, atI_nat h1, _, rfl, _, rfl, b, _, _, _, rfl, rfl, hU, atI_nat h1', _, _, x, y, rfl, hd.mono xx, hd'.mono xx, hx, hy, fun c H2 cs x2 nc hc hcs => ?_⟩
    have nLc : L ≠ c := fun z => by subst z; rw [hL'] at nc; cases nc
    have nst : ∀ d o, Hd L H' d = some o → Hd L H2 d = some o := fun d o e => hd_of (hd_some e).1 (x2 _ _ (hd_some e).2)
    have lc : cs.length ≤ 1 := by
      have := hcs.length
      rw [List.length_map] at this
      rw [this]
      cases x <;> cases y <;> simp only [Ed.comp] <;> (try split) <;> simp
    refine ⟨L, c, _, _, rfl, rfl, x2 _ _ hL', hc, by rw [sizeLine_eq]; omega, ?_⟩
    refine ⟨_, rfl, _, _, rfl, rfl, _, rfl, _, _, rfl, rfl, ?_⟩
    refine ⟨(ff.length - (i + 1)) + (ss.length - (j + 1)), by omega, i + 1, j + 1, acc ++ cs, done ++ x.comp y, rfl, l1, l1', rfl, by rw [hd_upd_]; exact x0.trans nst, upd_same, ?_, ?_, ?_, by simp; omega⟩
    · rw [hd_upd_, List.map_append]
      exact (hacc.mono nst).app (hd_eds (x2 _ _ hL') hcs)
    · rw [l3, l3', ← hsum, sumE_comp hx hy]
      simp
    · rw [l3, l3']; exact mm
end
end Sk

/-! The class: how a script is made. -/
namespace Sk
open PySem PySem.Spec PyProof.Rows L2 Evl
theorem sg_ : ¬ (("steps" : Str) = "given") := by decide +kernel
theorem sm_ : ¬ (("steps" : Str) = "made") := by decide +kernel
theorem gm_ : ¬ (("given" : Str) = "made") := by decide +kernel
/-- the fields -/
def sf (t : Addr) (g m : Str) : List (Str × V) := putF "made" (.str m) (putF "given" (.str g) (putF "steps" (.ref t) []))
theorem sf_steps (t : Addr) (g m : Str) : (sf t g m).lookup ("steps" : Str) = some (.ref t) := by
  unfold sf
  rw [lookup_putF, if_neg sm_, lookup_putF, if_neg sg_, lookup_putF, if_pos rfl]
theorem sf_given (t : Addr) (g m : Str) : (sf t g m).lookup ("given" : Str) = some (.str g) := by
  unfold sf
  rw [lookup_putF, if_neg gm_, lookup_putF, if_pos rfl]
theorem sf_made (t : Addr) (g m : Str) : (sf t g m).lookup ("made" : Str) = some (.str m) := by
  unfold sf
  rw [lookup_putF, if_pos rfl]
/-- a script of these steps -/
def ScAt (C : Addr) (H : Hp) (p : Addr) (es : List (Ed Nat)) : Prop := ∃ dx t us, H p = some (.ins C dx (sf t (tx (givenE es)) (tx (madeE es)))) ∧ H t = some (.tup us) ∧ DqAll H us (es.map edD)
theorem ScAt.mono {C : Addr} {H H' : Hp} {p : Addr} {es : List (Ed Nat)} (x : Ex H H') (h : ScAt C H p es) : ScAt C H' p es := by
  obtain ⟨dx, t, us, h1, h2, h3⟩ := h
  exact ⟨dx, t, us, x _ _ h1, x _ _ h2, h3.mono x⟩
structure ScT (K : PySem.W.Frag) (mg : Str → Option Value) (C : Addr) : Prop where
  cl : Cls K C
  nS : NoAttr K C "steps"
  nG : NoAttr K C "given"
  nM : NoAttr K C "made"
  mC : mg "Script" = some (.ref C)
theorem at1 {e : Ed Nat} (h : e.isPut = false) : ∃ c, e.inn = [c] ∧ atI (edV e) (1 : Int) = some (.str (one c)) := by
  cases e <;> first | (cases h; done) | exact ⟨_, rfl, atI_nat (j := 1) rfl⟩
theorem atL {e : Ed Nat} (h : e.isDrop = false) : ∃ c, e.out = [c] ∧ atI (edV e) (-1 : Int) = some (.str (one c)) := by
  cases e with
  | drop c => cases h
  | keep c => exact ⟨c, rfl, atI_last [V.str "keep"] (V.str (one c))⟩
  | put c => exact ⟨c, rfl, atI_last [V.str "put"] (V.str (one c))⟩
  | swap a b => exact ⟨b, rfl, atI_last [V.str "swap", V.str (one a)] (V.str (one b))⟩
theorem inn_put {e : Ed Nat} (h : e.isPut = true) : e.inn = [] := by cases e <;> first | (cases h; done) | rfl
theorem out_drop {e : Ed Nat} (h : e.isDrop = true) : e.out = [] := by cases e <;> first | (cases h; done) | rfl
theorem given_snoc {es : List (Ed Nat)} {i : Nat} {e : Ed Nat} (h : es[i]? = some e) : givenE (es.take (i + 1)) = givenE (es.take i) ++ e.inn := by
  rw [take_snoc h, given_app]; simp [givenE]
theorem made_snoc {es : List (Ed Nat)} {i : Nat} {e : Ed Nat} (h : es[i]? = some e) : madeE (es.take (i + 1)) = madeE (es.take i) ++ e.out := by
  rw [take_snoc h, made_app]; simp [madeE]
theorem given_len (es : List (Ed Nat)) : (givenE es).length ≤ es.length := by
  induction es with
  | nil => simp [givenE]
  | cons e es ih => rw [given_cons, List.length_append, List.length_cons]; have : e.inn.length ≤ 1 := by cases e <;> simp [Ed.inn]
                    omega
theorem made_len (es : List (Ed Nat)) : (madeE es).length ≤ es.length := by
  induction es with
  | nil => simp [madeE]
  | cons e es ih => rw [made_cons, List.length_append, List.length_cons]; have : e.out.length ≤ 1 := by cases e <;> simp [Ed.out]
                    omega
abbrev NIni : List Str := ["self", "steps", "step"]
theorem scIni : FnScope NIni ["self", "steps"] (defScope sInit) := ⟨rfl, rfl, rfl, by decide +kernel, rfl, by decide +kernel, by decide +kernel⟩
def spIni (C : Addr) : Sp := fun vs H Q _ => ∃ (p l dx : Addr) (ws : List V) (es : List (Ed Nat)), vs = [.ref p, .ref l] ∧ H p = some (.ins C dx []) ∧ H l = some (.lst ws) ∧ DqAll (Hd p H) ws (es.map edD) ∧ (∀ e ∈ es, Ed.ok e) ∧ es.length ≤ 100000 ∧
  ∀ H', Ex (Hd p H) H' → ScAt C H' p es → Q .non H'
section
variable {P : Program} {w : World} {K : PySem.W.Frag} {mg : Str → Option Value} {base : Heap} {f g : Addr} {fd gd : FuncData} {C : Addr}
theorem ok_ini (F : Fun K "__init__" "Script.__init__" sInit f fd) (B : Blt mg) (B2 : Blt2 mg) (T : ScT K mg C) (Ar : Lt P w K mg base g gd "are_steps" ["thing"] 3 spAre) : FnOk P w K mg base CX0 4 f fd ["self", "steps"] (spIni C) := by
  refine F.ok scIni (fun vs H Q E h => ?_) (fun cdv A outer s H vs Q E hr h => ?_)
  · obtain ⟨_, _, _, _, _, rfl, _⟩ := h
    rfl
  obtain ⟨p, l, dx, ws, es, rfl, hp, hl, hd, oe, le, q⟩ := h
  have nd := scIni.nd
  have hr3 : Room 3 _ := hr
  refine ⟨_, pss_cons (ps_if (pt_not (pt_val (pe_call Ar.g hr3 rfl Ar.m Ar.k Ar.b .nil pass0 (pa_cons (pv 1) pa_nil)))) (pss_one ps_never) pss_nil)
    (pss_cons (ps_fld (pv 0) (pe_callTy call_tuple_of rfl B2.tuple bt_tuple (pa_cons (pv 1) pa_nil)) rfl)
    (pss_cons (ps_fld (pv 0) (pe_join pe_str (pe_lc (own := [("step", 2)]) (g := gName 2) (tt := tTest (tOp rNe (tOp (rIxT K) (tVar 2) (tC (.int 0))) (tC (.str "put")))) (te := tOp (rIxT K) (tVar 2) (tC (.int 1))) rfl nd (pi_tup (pe_fld (pv 0) rfl)) (blkOk_by (N := NIni) (sc := defScope sInit) (by decide +kernel)) (fun _ _ _ _ _ => pg_name (i := 2) nd rfl (Or.inl rfl))
        (fun _ _ _ _ _ => pts_one (pt_cmpR op_ne (pe_ix ix_tup (pv 2) pe_int (fun _ _ => rfl)) pe_str (nomark _))) (fun _ _ _ _ _ => pe_ix ix_tup (pv 2) pe_int (fun _ _ => rfl)))) rfl)
    (pss_one (ps_fld (pv 0) (pe_join pe_str (pe_lc (own := [("step", 2)]) (g := gName 2) (tt := tTest (tOp rNe (tOp (rIxT K) (tVar 2) (tC (.int 0))) (tC (.str "drop")))) (te := tOp (rIxT K) (tVar 2) (tUn (rU fun i => .int (-i)) (tC (.int 1)))) rfl nd (pi_tup (pe_fld (pv 0) rfl)) (blkOk_by (N := NIni) (sc := defScope sInit) (by decide +kernel)) (fun _ _ _ _ _ => pg_name (i := 2) nd rfl (Or.inl rfl))
        (fun _ _ _ _ _ => pts_one (pt_cmpR op_ne (pe_ix ix_tup (pv 2) pe_int (fun _ _ => rfl)) pe_str (nomark _))) (fun _ _ _ _ _ => pe_ix ix_tup (pv 2) (pe_un un_neg pe_int) (fun _ _ => rfl)))) rfl)))), ?_⟩
  refine ⟨_, rfl, l, ws, es, rfl, hl, hd.mono hd_le, oe, fun H1 x1 => ⟨_, rfl, ?_⟩⟩
  refine iteF ?_
  have hp1 := x1 _ _ hp
  have hl1 := x1 _ _ hl
  have pl : l ≠ p := fun z => by subst z; rw [hl] at hp; cases hp
  refine ⟨_, rfl, l, ws, rfl, .inl ⟨SqL.of hl1, fun t nt => ⟨_, rfl, p, C, dx, [], rfl, (by rw [upd_ne (ne_of_none hp1 nt)]; exact hp1), T.cl, T.nS, (by show 0 < 1000; decide), ?_⟩⟩⟩
  have ntp : t ≠ p := fun z => by subst z; rw [hp1] at nt; cases nt
  have x2 : Ex (Hd p H) (Hd p (upd (upd H1 t (.tup ws)) p (.ins C dx (putF "steps" (.ref t) [])))) := fun b o e => by
    obtain ⟨n, e'⟩ := hd_some e
    have e1 := x1 _ _ e'
    exact hd_of n (by rw [upd_ne n, upd_ne (ne_of_none e1 nt)]; exact e1)
  have ht2 : Hd p (upd (upd H1 t (.tup ws)) p (.ins C dx (putF "steps" (.ref t) []))) t = some (.tup ws) := hd_of ntp (by rw [upd_ne ntp, upd_same])
  have hp2 : upd (upd H1 t (.tup ws)) p (.ins C dx (putF "steps" (.ref t) [])) p = some (.ins C dx (putF "steps" (.ref t) [])) := upd_same
  generalize upd (upd H1 t (.tup ws)) p (.ins C dx (putF "steps" (.ref t) [])) = H2 at x2 ht2 hp2 ⊢
  have lk : (putF "steps" (V.ref t) []).lookup ("steps" : Str) = some (.ref t) := by rw [lookup_putF, if_pos rfl]
  -- what it reads
  refine ⟨⟨_, rfl⟩, _, rfl, p, C, dx, _, _, rfl, hp2, T.cl, T.nS, lk, t, rfl, ⟨_, SqT.of (hd_le _ _ ht2)⟩, fun D hD => ?_⟩
  refine lc_tup (xs := ws) (fun i H' => Ex H2 H' ∧ H' D = some (.lst ((givenE (es.take i)).map fun c => V.str (one c)))) ⟨Ex.new hD, upd_same⟩ (fun i H' _ z => SqT.of (z.1 _ _ (hd_le _ _ ht2))) (fun i x H' hx z => ?_) (fun H3 z => ?_)
  · obtain ⟨z1, z2⟩ := z
    obtain ⟨d, hdd, hq⟩ := hd.get hx
    rw [List.getElem?_map] at hdd
    obtain ⟨e, he, rfl⟩ := Option.map_eq_some_iff.mp hdd
    obtain ⟨a, rfl, ha⟩ := ed_inv (hq.mono (x2.trans (hd_le.trans z1)))
    obtain ⟨r, er⟩ := edV_tag e
    refine ⟨rfl, _, rfl, a, _, _, _, rfl, rfl, SqT.of ha, (by rw [er]; exact atI_nat (j := 0) rfl), rfl, _, rfl, ?_⟩
    rw [tag_put]
    cases hpe : e.isPut with
    | true => exact iteF ⟨z1, by rw [given_snoc he, inn_put hpe, List.append_nil]; exact z2⟩
    | false =>
      obtain ⟨c, ec, hc⟩ := at1 hpe
      refine iteT ⟨_, rfl, a, _, _, _, rfl, rfl, SqT.of ha, hc, _, z2, ?_, z1.mut hD, ?_⟩
      · rw [sizeLine_eq, List.length_map]
        have := given_len (es.take i)
        rw [List.length_take] at this
        omega
      · rw [upd_same, given_snoc he, ec, List.map_append]; rfl
  obtain ⟨x3, hD3⟩ := z
  have lw : ws.length = es.length := by rw [hd.length, List.length_map]
  rw [lw, List.take_length] at hD3
  have jn : ∀ cs : List Nat, Txt.join (Str.ofString "") (cs.map one) = tx cs := fun cs => (TL.join_eq _ _).trans (join_tx cs)
  have bn : ∀ cs : List Nat, cs.length ≤ 100000 → ((cs.map one).map (·.length)).sum + (cs.map one).length * (Str.ofString "").length ≤ 16777216 := fun cs h => by
    have e0 : (Str.ofString "").length = 0 := rfl
    rw [sum_one, e0]; omega
  have gl := given_len es
  have ml := made_len es
  refine ⟨_, D, (givenE es).map one, rfl, rfl, .inl (SqL.of (by rw [hD3, List.map_map]; rfl)), bn _ (by omega), ?_⟩
  rw [jn]
  refine ⟨_, rfl, p, C, dx, _, rfl, x3 _ _ hp2, T.cl, T.nG, (by show 1 < 1000; decide), ?_⟩
  have x4 : Ex (Hd p H2) (Hd p (upd H3 p (.ins C dx (putF "given" (.str (tx (givenE es))) (putF "steps" (.ref t) []))))) := fun b o e => by
    obtain ⟨n, e'⟩ := hd_some e
    exact hd_of n (by rw [upd_ne n]; exact x3 _ _ e')
  have hp4 : upd H3 p (.ins C dx (putF "given" (.str (tx (givenE es))) (putF "steps" (.ref t) []))) p = some (.ins C dx (putF "given" (.str (tx (givenE es))) (putF "steps" (.ref t) []))) := upd_same
  generalize upd H3 p (.ins C dx (putF "given" (.str (tx (givenE es))) (putF "steps" (.ref t) []))) = H4 at x4 hp4 ⊢
  have ht4 := x4 _ _ ht2
  have lk2 : (putF "given" (.str (tx (givenE es))) (putF "steps" (V.ref t) [])).lookup ("steps" : Str) = some (.ref t) := by rw [lookup_putF, if_neg sg_, lookup_putF, if_pos rfl]
  -- what it writes
  refine ⟨⟨_, rfl⟩, _, rfl, p, C, dx, _, _, rfl, hp4, T.cl, T.nS, lk2, t, rfl, ⟨_, SqT.of (hd_le _ _ ht4)⟩, fun D' hD' => ?_⟩
  refine lc_tup (xs := ws) (fun i H' => Ex H4 H' ∧ H' D' = some (.lst ((madeE (es.take i)).map fun c => V.str (one c)))) ⟨Ex.new hD', upd_same⟩ (fun i H' _ z => SqT.of (z.1 _ _ (hd_le _ _ ht4))) (fun i x H' hx z => ?_) (fun H5 z => ?_)
  · obtain ⟨z1, z2⟩ := z
    obtain ⟨d, hdd, hq⟩ := hd.get hx
    rw [List.getElem?_map] at hdd
    obtain ⟨e, he, rfl⟩ := Option.map_eq_some_iff.mp hdd
    obtain ⟨a, rfl, ha⟩ := ed_inv (hq.mono ((x2.trans x4).trans (hd_le.trans z1)))
    obtain ⟨r, er⟩ := edV_tag e
    refine ⟨rfl, _, rfl, a, _, _, _, rfl, rfl, SqT.of ha, (by rw [er]; exact atI_nat (j := 0) rfl), rfl, _, rfl, ?_⟩
    rw [tag_drop]
    cases hpe : e.isDrop with
    | true => exact iteF ⟨z1, by rw [made_snoc he, out_drop hpe, List.append_nil]; exact z2⟩
    | false =>
      obtain ⟨c, ec, hc⟩ := atL hpe
      refine iteT ⟨_, rfl, _, rfl, a, _, _, _, rfl, rfl, SqT.of ha, hc, _, z2, ?_, z1.mut hD', ?_⟩
      · rw [sizeLine_eq, List.length_map]
        have := made_len (es.take i)
        rw [List.length_take] at this
        omega
      · rw [upd_same, made_snoc he, ec, List.map_append]; rfl
  obtain ⟨x5, hD5⟩ := z
  rw [lw, List.take_length] at hD5
  refine ⟨_, D', (madeE es).map one, rfl, rfl, .inl (SqL.of (by rw [hD5, List.map_map]; rfl)), bn _ (by omega), ?_⟩
  rw [jn]
  refine ⟨_, rfl, p, C, dx, _, rfl, x5 _ _ hp4, T.cl, T.nM, ?_, ?_⟩
  · show (putF "given" (.str (tx (givenE es))) (putF "steps" (V.ref t) [])).length < 1000
    show (if ("steps" : Str) = "given" then _ else _ : List (Str × V)).length < 1000
    rw [if_neg sg_]
    show 2 < 1000
    decide
  have x6 : Ex (Hd p H4) (upd H5 p (.ins C dx (sf t (tx (givenE es)) (tx (madeE es))))) := fun b o e => by
    obtain ⟨n, e'⟩ := hd_some e
    rw [upd_ne n]; exact x5 _ _ e'
  have xA : Ex (Hd p H) (upd H5 p (.ins C dx (sf t (tx (givenE es)) (tx (madeE es))))) := (x2.trans x4).trans x6
  exact q _ xA ⟨dx, t, ws, upd_same, x6 _ _ ht4, hd.mono xA⟩
end
end Sk

/-! The class: called, measured, turned, added, compared. -/
namespace Sk
open PySem PySem.Spec PyProof.Rows L2 Evl
section
variable {X : Cx} {CX : CXT} {k i : Nat} {C f : Addr} {fd : FuncData} {ps : List Str} {sp : Sp} {dvs : List V} {ds : List Value} {E : XK} {x : Str} {p pos : Pos} {e : Expr} {es : List Expr} {t : TA}
/-- cls(..): a local name that holds the class -/
def tMakeL (i : Nat) (C : Addr) (sp : Sp) (dvs : List V) (E : XK) (t : TA) : TE := fun σ H Q => σ[i]? = some (some (.ref C)) ∧ tMake C sp dvs E t σ H Q
theorem pe_makeL (M : Mk X.K C f) (F : FnOk X.prog X.w X.K X.mg X.base CX k f fd ps sp) (hr : Room (k + 1) X.A) (hN : X.N[i]? = some x) (hv : Vis X.env.scope x) (hb : Binds X.K fd ps ds) (hd : Vals dvs ds) (hx : Passes CX X E) (ha : PA X (e :: es) t)
    (hdb : (x == ("__debug__" : Str)) = false := by decide) (hcd : (x == ("__classdict__" : Str)) = false := by decide)
    (he : starEach (e :: es) X.env = (false, eval e X.env) :: starEach es X.env := by rfl) (hpl : (backTo pos (starEach es X.env)).any (·.1) = false := by rfl) : PE X (.Call (.Name x p) (e :: es) [] pos) (tMakeL i C sp dvs E t) := by
  refine ⟨fun pins s σ H Q I h => ?_⟩
  obtain ⟨hs, ht⟩ := h
  refine wpAny_Call_Name_kw (thn ((pe_var (pos := p) hN hv hdb hcd).run pins s σ H (fun v H1 => v = .ref C ∧ H1 = H) I ⟨.ref C, hs, rfl, rfl⟩) fun u s1 ⟨v, H1, I1, r1, q1⟩ => ?_)
  obtain ⟨rfl, rfl⟩ := q1
  cases r1
  refine PySem.W.callWith_K (h₀ := X.base) I.ok.mod.kin M.kp (thn (ha.run pos pins s1 σ _ _ I1 ht) fun us s2 ⟨vs, H2, I2, r, q⟩ => ⟨I2.kIn, ?_⟩) he hpl
  exact run_make M F hr hb hd hx I2 r q
end
/-- a new script -/
theorem mk_sc {C l : Addr} {H1 : Hp} {ws : List V} {es : List (Ed Nat)} {Q : VK} {E : XK} (hl : H1 l = some (.lst ws)) (hd : DqAll H1 ws (es.map edD)) (oe : ∀ e ∈ es, Ed.ok e) (le : es.length ≤ 100000)
    (q : ∀ x H2, Ex H1 H2 → H1 x = none → ScAt C H2 x es → Q (.ref x) H2) : ∀ x dx, H1 x = none → H1 dx = none → dx ≠ x → spIni C (.ref x :: ([.ref l] ++ [])) (upd (upd H1 dx (.own x)) x (.ins C dx [])) (fun v H2 => v = .non ∧ Q (.ref x) H2) E := by
  intro x dx nx ndx ne
  have e1 : Ex H1 (upd (upd H1 dx (.own x)) x (.ins C dx [])) := fun b o e => by
    rw [upd_ne (ne_of_none e nx), upd_ne (ne_of_none e ndx)]; exact e
  have e2 : Ex H1 (Hd x (upd (upd H1 dx (.own x)) x (.ins C dx []))) := fun b o e => hd_of (ne_of_none e nx) (e1 _ _ e)
  exact ⟨x, l, dx, ws, es, rfl, upd_same, e1 _ _ hl, hd.mono e2, oe, le, fun H' x' sc => ⟨rfl, q x H' (e2.trans x') nx sc⟩⟩
def notKeep : Ed Nat → Bool
  | .keep _ => false
  | _ => true
theorem tag_keep (e : Ed Nat) : decide (V.str (tag e) = V.str "keep") = !notKeep e := by cases e <;> rfl
def cntE (es : List (Ed Nat)) : Nat := (es.filter notKeep).length
abbrev NInv : List Str := ["self", "step"]
theorem scCall : FnScope ["self", "text"] ["self", "text"] (defScope sCall) := ⟨rfl, rfl, rfl, by decide +kernel, rfl, by decide +kernel, by decide +kernel⟩
theorem scLen : FnScope NInv ["self"] (defScope sLen) := ⟨rfl, rfl, rfl, by decide +kernel, rfl, by decide +kernel, by decide +kernel⟩
theorem scInv : FnScope NInv ["self"] (defScope sInv) := ⟨rfl, rfl, rfl, by decide +kernel, rfl, by decide +kernel, by decide +kernel⟩
theorem scAdd : FnScope ["self", "other"] ["self", "other"] (defScope sAdd) := ⟨rfl, rfl, rfl, by decide +kernel, rfl, by decide +kernel, by decide +kernel⟩
theorem scEq : FnScope ["self", "other"] ["self", "other"] (defScope sEq) := ⟨rfl, rfl, rfl, by decide +kernel, rfl, by decide +kernel, by decide +kernel⟩
def spCal (C : Addr) : Sp := fun vs H Q _ => ∃ (p : Addr) (es : List (Ed Nat)), vs = [.ref p, .str (tx (givenE es))] ∧ ScAt C H p es ∧ Q (.str (tx (madeE es))) H
def spLen (C : Addr) : Sp := fun vs H Q _ => ∃ (p : Addr) (es : List (Ed Nat)), vs = [.ref p] ∧ ScAt C H p es ∧ es.length ≤ 100000 ∧ ∀ H', Ex H H' → Q (.int (cntE es)) H'
def spInv (C : Addr) : Sp := fun vs H Q _ => ∃ (p : Addr) (es : List (Ed Nat)), vs = [.ref p] ∧ ScAt C H p es ∧ (∀ e ∈ es, Ed.ok e) ∧ es.length ≤ 100000 ∧ ∀ x H', Ex H H' → H x = none → ScAt C H' x (es.map Ed.turn) → Q (.ref x) H'
def spAdd (C : Addr) : Sp := fun vs H Q _ => ∃ (p r : Addr) (es fs : List (Ed Nat)), vs = [.ref p, .ref r] ∧ ScAt C H p es ∧ ScAt C H r fs ∧ Mtd es fs ∧ (∀ e ∈ es, Ed.ok e) ∧ (∀ e ∈ fs, Ed.ok e) ∧ es.length + fs.length ≤ 100000 ∧ ∀ x H', Ex H H' → H x = none → ScAt C H' x (sumE es fs) → Q (.ref x) H'
def spEqT (C : Addr) : Sp := fun vs H Q _ => ∃ (p r : Addr) (es : List (Ed Nat)), vs = [.ref p, .ref r] ∧ ScAt C H p es ∧ ScAt C H r es ∧ ∀ H', Ex H H' → Q (.bl true) H'
structure ScM (K : PySem.W.Frag) (mg : Str → Option Value) (C : Addr) : Prop where
  T : ScT K mg C
  hCl : PySem.W.findIn K (.ref C) "__class__" = some (some (.builtin "object.__class__"))
  hGt : PySem.W.specialIn K (.builtin "object.__class__") "__get__" = some (some (.builtin "getset_descriptor.__get__"))
  hTk : PySem.W.takesIn K (.builtin "object.__class__") = some true
  hOb : PySem.W.mroIn K C (.type "object") = some true
  kit : PySem.W.kitOne K (.ref C) (.ref C) = some true
section
variable {P : Program} {w : World} {K : PySem.W.Frag} {mg : Str → Option Value} {base : Heap} {f g fi : Addr} {fd gd fid : FuncData} {C : Addr}
theorem ok_cal {k : Nat} (F : Fun K "__call__" "Script.__call__" sCall f fd) (B : Blt mg) (T : ScT K mg C) : FnOk P w K mg base CX0 (k + 1) f fd ["self", "text"] (spCal C) := by
  refine F.ok scCall (fun vs H Q E h => ?_) (fun cdv A outer s H vs Q E hr h => ?_)
  · obtain ⟨_, _, rfl, _⟩ := h
    rfl
  obtain ⟨p, es, rfl, ⟨dx, t, us, h1, h2, h3⟩, q⟩ := h
  have nd := scCall.nd
  refine ⟨_, pss_cons (ps_if (PW.pt (pw_or (pt_not (pt_val (pe_callB call_isD rfl B.isi bt_isi (pa_cons (pv 1) (pa_cons (pe_bltn (v := .ty "str") rfl B.str bt_str rfl) pa_nil))))) (pw_or1 (pt_cmpR op_ne (pv 1) (pe_fld (pv 0) rfl) (nomark _))))) (pss_one ps_never) pss_nil)
    (pss_one (ps_ret (pe_fld (pv 0) rfl))), ?_⟩
  refine ⟨_, rfl, _, _, _, _, rfl, .str _, kss, true, rfl, ?_⟩
  refine iteF ⟨_, rfl, _, rfl, p, C, dx, _, _, rfl, h1, T.cl, T.nG, sf_given _ _ _, rfl, _, rfl, iteNS rfl ?_⟩
  exact ⟨_, rfl, p, C, dx, _, _, rfl, h1, T.cl, T.nM, sf_made _ _ _, q⟩
theorem ok_len {k : Nat} (F : Fun K "__len__" "Script.__len__" sLen f fd) (B : Blt mg) (T : ScT K mg C) : FnOk P w K mg base CX0 (k + 1) f fd ["self"] (spLen C) := by
  refine F.ok scLen (fun vs H Q E h => ?_) (fun cdv A outer s H vs Q E hr h => ?_)
  · obtain ⟨_, _, rfl, _⟩ := h
    rfl
  obtain ⟨p, es, rfl, ⟨dx, t, us, h1, h2, h3⟩, le, q⟩ := h
  have nd := scLen.nd
  refine ⟨_, pss_one (ps_ret (pe_callB call_len_seq rfl B.len PySem.boot_len (pa_cons (pe_lc (own := [("step", 1)]) (g := gName 1) (tt := tTest (tOp rNe (tOp (rIxT K) (tVar 1) (tC (.int 0))) (tC (.str "keep")))) (te := tVar 1) rfl nd (pi_tup (pe_fld (pv 0) rfl)) (blkOk_by (N := NInv) (sc := defScope sLen) (by decide +kernel)) (fun _ _ _ _ _ => pg_name (i := 1) nd rfl (Or.inl rfl))
      (fun _ _ _ _ _ => pts_one (pt_cmpR op_ne (pe_ix ix_tup (pv 1) pe_int (fun _ _ => rfl)) pe_str (nomark _))) (fun _ _ _ _ _ => pv 1)) pa_nil))), ?_⟩
  refine ⟨_, rfl, p, C, dx, _, _, rfl, h1, T.cl, T.nS, sf_steps _ _ _, t, rfl, ⟨_, SqT.of h2⟩, fun D hD => ?_⟩
  refine lc_tup (xs := us) (fun i H' => Ex H H' ∧ ∃ acc, H' D = some (.lst acc) ∧ acc.length = cntE (es.take i)) ⟨Ex.new hD, [], upd_same, rfl⟩ (fun i H' _ z => SqT.of (z.1 _ _ h2)) (fun i x H' hx z => ?_) (fun H3 z => ?_)
  · obtain ⟨z1, acc, z2, z3⟩ := z
    obtain ⟨d, hdd, hq⟩ := h3.get hx
    rw [List.getElem?_map] at hdd
    obtain ⟨e, he, rfl⟩ := Option.map_eq_some_iff.mp hdd
    obtain ⟨a, rfl, ha⟩ := ed_inv (hq.mono z1)
    obtain ⟨r, er⟩ := edV_tag e
    have cs : cntE (es.take (i + 1)) = cntE (es.take i) + (if notKeep e then 1 else 0) := by
      rw [take_snoc he]; unfold cntE
      rw [List.filter_append, List.length_append]
      cases hk : notKeep e <;> simp [List.filter_cons, hk]
    refine ⟨rfl, _, rfl, a, _, _, _, rfl, rfl, SqT.of ha, (by rw [er]; exact atI_nat (j := 0) rfl), rfl, _, rfl, ?_⟩
    rw [tag_keep]
    cases hk : notKeep e with
    | false => exact iteF ⟨z1, acc, z2, by rw [cs, hk]; exact z3⟩
    | true =>
      refine iteT ⟨_, rfl, acc, z2, ?_, z1.mut hD, acc ++ [.ref a], upd_same, by rw [cs, hk, List.length_append, z3]; rfl⟩
      rw [z3, sizeLine_eq]
      have : cntE (es.take i) ≤ es.length := Nat.le_trans (List.length_filter_le _ _) (by rw [List.length_take]; omega)
      omega
  obtain ⟨z1, acc, z2, z3⟩ := z
  have lu : us.length = es.length := by rw [h3.length, List.length_map]
  rw [lu, List.take_length] at z3
  refine ⟨D, acc, rfl, .inl (SqL.of z2), ?_⟩
  rw [z3]
  exact q _ z1
theorem ok_inv (F : Fun K "__invert__" "Script.__invert__" sInv f fd) (T : ScT K mg C) (M : Mk K C fi) (Gi : FnOk P w K mg base CX0 4 fi fid ["self", "steps"] (spIni C)) (bi : Binds K fid ["self", "steps"] []) (Tu : Lt P w K mg base g gd "turned" ["step"] 1 spTurn) : FnOk P w K mg base CX0 6 f fd ["self"] (spInv C) := by
  refine F.ok scInv (fun vs H Q E h => ?_) (fun cdv A outer s H vs Q E hr h => ?_)
  · obtain ⟨_, _, rfl, _⟩ := h
    rfl
  obtain ⟨p, es, rfl, ⟨dx, t, us, h1, h2, h3⟩, oe, le, q⟩ := h
  have nd := scInv.nd
  have hr1 : Room 1 _ := hr.mono (by decide)
  refine ⟨_, pss_one (ps_ret (pe_make M Gi hr rfl T.mC bi .nil pass0 (pa_cons (pe_lc (own := [("step", 1)]) (g := gName 1) (tt := tYes) (te := tCall spTurn [] E0 (tCons (tVar 1) tNil)) rfl nd (pi_tup (pe_fld (pv 0) rfl)) (blkOk_by (N := NInv) (sc := defScope sInv) (by decide +kernel)) (fun _ _ _ _ _ => pg_name (i := 1) nd rfl (Or.inl rfl))
      (fun _ _ _ _ _ => pts_nil) (fun _ _ _ _ _ => pe_call Tu.g hr1 rfl Tu.m Tu.k Tu.b .nil pass0 (pa_cons (pv 1) pa_nil))) pa_nil))), ?_⟩
  refine ⟨_, rfl, p, C, dx, _, _, rfl, h1, T.cl, T.nS, sf_steps _ _ _, t, rfl, ⟨_, SqT.of h2⟩, fun D hD => ?_⟩
  refine lc_tup (xs := us) (fun i H' => Ex H H' ∧ ∃ acc, H' D = some (.lst acc) ∧ acc.length = i ∧ DqAll (Hd D H') acc (((es.map Ed.turn).take i).map edD)) ⟨Ex.new hD, [], upd_same, rfl, .nil⟩ (fun i H' _ z => SqT.of (z.1 _ _ h2)) (fun i x H' hx z => ?_) (fun H3 z => ?_)
  · obtain ⟨z1, acc, z2, z3, z4⟩ := z
    obtain ⟨d, hdd, hq⟩ := h3.get hx
    rw [List.getElem?_map] at hdd
    obtain ⟨e, he, rfl⟩ := Option.map_eq_some_iff.mp hdd
    have jl := (List.getElem?_eq_some_iff.mp he).1
    refine ⟨rfl, tyes ⟨_, rfl, _, e, rfl, hq.mono z1, fun u H2 x2 du => ?_⟩⟩
    have z2' := x2 _ _ z2
    refine ⟨acc, z2', by rw [sizeLine_eq]; omega, (z1.trans x2).mut hD, acc ++ [u], upd_same, by simp [z3], ?_⟩
    rw [hd_upd_, take_snoc (show (es.map Ed.turn)[i]? = some e.turn by rw [List.getElem?_map, he]; rfl), List.map_append]
    refine (z4.mono fun b o e => hd_of (hd_some e).1 (x2 _ _ (hd_some e).2)).snoc ?_
    obtain ⟨a, rfl, ha⟩ := ed_inv du
    exact ed_of (hd_of (fun z => by subst z; rw [z2'] at ha; cases ha) ha)
  obtain ⟨z1, acc, z2, z3, z4⟩ := z
  have lu : us.length = es.length := by rw [h3.length, List.length_map]
  rw [List.take_of_length_le (by rw [List.length_map, lu]; exact Nat.le_refl _)] at z4
  refine mk_sc z2 (z4.mono hd_le) (fun e m => ?_) (by rw [List.length_map]; exact le) fun x H2 x2 nx sc => q x H2 (z1.trans x2) (by
    cases h : H x with
    | none => rfl
    | some o => rw [z1 _ _ h] at nx; cases nx) sc
  obtain ⟨e', m', rfl⟩ := List.mem_map.mp m
  exact turn_ok (oe e' m')
theorem ok_add (F : Fun K "__add__" "Script.__add__" sAdd f fd) (T : ScT K mg C) (M : Mk K C fi) (Gi : FnOk P w K mg base CX0 4 fi fid ["self", "steps"] (spIni C)) (bi : Binds K fid ["self", "steps"] []) (Sm : Lt P w K mg base g gd "summed" ["firsts", "seconds"] 2 spSumd) : FnOk P w K mg base CX0 6 f fd ["self", "other"] (spAdd C) := by
  refine F.ok scAdd (fun vs H Q E h => ?_) (fun cdv A outer s H vs Q E hr h => ?_)
  · obtain ⟨_, _, _, _, rfl, _⟩ := h
    rfl
  obtain ⟨p, r, es, fs, rfl, ⟨dx, t, us, h1, h2, h3⟩, ⟨dy, t', us', h1', h2', h3'⟩, mt, oe, of, le, q⟩ := h
  have nd := scAdd.nd
  have hr2 : Room 2 _ := hr.mono (by decide)
  refine ⟨_, pss_cons (ps_if (pt_cmpR op_ne (pe_fld (pv 1) rfl) (pe_fld (pv 0) rfl) (nomark _)) (pss_one ps_never) pss_nil)
    (pss_one (ps_ret (pe_make M Gi hr rfl T.mC bi .nil pass0 (pa_cons (pe_call Sm.g hr2 rfl Sm.m Sm.k Sm.b .nil pass0 (pa_cons (pe_fld (pv 0) rfl) (pa_cons (pe_fld (pv 1) rfl) pa_nil))) pa_nil)))), ?_⟩
  refine ⟨_, rfl, r, C, dy, _, _, rfl, h1', T.cl, T.nG, sf_given _ _ _, _, rfl, p, C, dx, _, _, rfl, h1, T.cl, T.nM, sf_made _ _ _, rfl, _, rfl, iteNS (by rw [mt.mt]) ?_⟩
  refine ⟨_, rfl, p, C, dx, _, _, rfl, h1, T.cl, T.nS, sf_steps _ _ _, _, rfl, r, C, dy, _, _, rfl, h1', T.cl, T.nS, sf_steps _ _ _, t, t', us, us', es, fs, rfl, h2, h3, h2', h3', mt, le, fun l H1 xs x1 nl hl hxs => ?_⟩
  refine mk_sc hl hxs (sum_ok mt oe of) (Nat.le_trans (sum_len mt) le) fun x H2 x2 nx sc => q x H2 (x1.trans x2) (by
    cases h : H x with
    | none => rfl
    | some o => rw [x1 _ _ h] at nx; cases nx) sc
theorem edV_str (e : Ed Nat) : ∀ x ∈ edV e, ∃ z, x = V.str z := by
  cases e <;> simp [edV]
theorem prs_ed {H : Hp} (e : Ed Nat) : Prs DFlat (edV e) (edV e) H := ⟨rfl, fun i x y h1 h2 => by
  rw [h1] at h2
  cases h2
  obtain ⟨z, rfl⟩ := edV_str e x (List.mem_of_getElem? h1)
  exact ⟨rfl, rfl, by simp [eqV]⟩⟩
theorem prs_eds {K : PySem.W.Frag} {H : Hp} {us us' : List V} {es : List (Ed Nat)} (h : DqAll H us (es.map edD)) (h' : DqAll H us' (es.map edD)) : Prs (DTup K DFlat) us us' H := ⟨by rw [h.length, h'.length], fun i x y h1 h2 => by
  obtain ⟨d, hd, q⟩ := h.get h1
  obtain ⟨d', hd', q'⟩ := h'.get h2
  rw [hd] at hd'
  cases hd'
  rw [List.getElem?_map] at hd
  obtain ⟨e, _, rfl⟩ := Option.map_eq_some_iff.mp hd
  obtain ⟨a, rfl, ha⟩ := ed_inv q
  obtain ⟨b, rfl, hb⟩ := ed_inv q'
  exact ⟨a, b, _, _, rfl, rfl, SqT.of ha, SqT.of hb, prs_ed e⟩⟩
theorem ok_eq (F : Fun K "__eq__" "Script.__eq__" sEq f fd) (B : Blt mg) (T : ScM K mg C) : FnOk P w K mg base CX0 3 f fd ["self", "other"] (spEqT C) := by
  refine F.ok scEq (fun vs H Q E h => ?_) (fun cdv A outer s H vs Q E hr h => ?_)
  · obtain ⟨_, _, _, rfl, _⟩ := h
    rfl
  obtain ⟨p, r, es, rfl, ⟨dx, t, us, h1, h2, h3⟩, ⟨dy, t', us', h1', h2', h3'⟩, q⟩ := h
  have nd := scEq.nd
  have hr2 : Room 2 _ := hr
  refine ⟨_, pss_one (ps_ret (pe_and (pe_callB call_isi rfl B.isi bt_isi (pa_cons (pv 1) (pa_cons (pe_glob (v := .ref C) rfl T.T.mC rfl) pa_nil))) (pe_one (pe_cmpR (op_eqG (rcG_tup (mon_tup mon_flat) (eqG_tup mon_flat eqG_flat)) hr2) (pe_fld (pv 0) rfl) (pe_fld (pv 1) rfl) (nomark _))))), ?_⟩
  refine ⟨_, rfl, .ref r, .ref C, _, _, true, rfl, .own C, .base (.ins h1' T.T.cl T.hCl T.hGt T.hTk T.hOb), T.kit, true, rfl, iteT ?_⟩
  refine ⟨_, rfl, p, C, dx, _, _, rfl, h1, T.T.cl, T.T.nS, sf_steps _ _ _, _, rfl, r, C, dy, _, _, rfl, h1', T.T.cl, T.T.nS, sf_steps _ _ _, ⟨t, t', us, us', rfl, rfl, SqT.of h2, SqT.of h2', prs_eds h3 h3'⟩, fun H' x => q H' x⟩
end
end Sk

/-! The class: its cost, by keywords; what keeps all. -/
namespace Sk
open PySem PySem.Spec PyProof.Rows L2 Evl
section
variable {X : Cx} {CX : CXT} {k n : Nat} {C f : Addr} {fd : FuncData} {ps ks : List Str} {sp : Sp} {E : XK} {m : Str} {apos pos : Pos} {o : Expr} {kws : List Keyword} {ta : TE} {tk : TA} {g : List Value → List Value → List Value} {gV : List V → List V → List V}
/-- o.m(k = v, ..) -/
def tMethN (C : Addr) (m : Str) (n : Nat) (sp : Sp) (gV : List V → List V → List V) (E : XK) (ta : TE) (tk : TA) : TE := fun σ H Q => ta σ H fun x H1 => ∃ a dx fs, x = V.ref a ∧ H1 a = some (.ins C dx fs) ∧ fs.lookup m = none ∧ tk σ H1 fun zs H2 => zs.length = n ∧ sp (gV [.ref a] zs) H2 Q E
theorem pe_methN {pl : Sem Bool} (he : PE X o ta) (c : Cls X.K C) (hm : Meth X.K C m f) (F : FnOk X.prog X.w X.K X.mg X.base CX k f fd ps sp) (hr : Room k X.A) (hb : KBn X.K fd ps 1 ks g gV) (hx : Passes CX X E) (hkw : PK X kws tk)
    (hall : (backToKw pos (keywordEach kws X.env)).all (·.1.isSome) = true := by rfl) (hks : (backToKw pos (keywordEach kws X.env)).filterMap (·.1) = ks := by rfl)
    (hpl : ((backTo pos (starEach [] X.env)).any (·.1) || (backToKw pos (keywordEach kws X.env)).any (·.1.isNone)) = false := by rfl)
    (ht : eval (.Call (.Attribute o m apos) [] kws pos) X.env = (do
      let ov ← eval o X.env
      standAt apos.atName
      let (f, first) ← holding [ov] (getMethod ov m pl)
      callWith pos f first (backTo pos (starEach [] X.env)) (backToKw pos (keywordEach kws X.env))) := by rfl) :
    PE X (.Call (.Attribute o m apos) [] kws pos) (tMethN C m ks.length sp gV E ta tk) := by
  refine ⟨fun pins s σ H Q I h => ?_⟩
  refine PySem.W.methodCall_KW (pl := pl) (thn (he.run pins s σ H _ I h) fun u s1 ⟨x, H1, I1, rx, a, dx, fs, ex, ea, l, q⟩ => ?_) ht
  subst ex
  obtain rfl : u = Value.ref a := rx
  refine getmeth_ok I1 ea c hm l ?_
  refine PySem.W.callWith_KW0 (h₀ := X.base) (first := [.ref a]) I1.ok.mod.kin hm.kp hall (thn (hkw.run pos pins s1 σ H1 _ I1 q) fun ws s2 ⟨zs, H2, I2, rz, l2, q2⟩ => ⟨I2.kIn, ?_⟩) hpl
  rw [hks]
  exact run_fnN (us := [.ref a]) (vs := [.ref a]) F hr hb hx I2 (.cons rfl .nil) rz rfl l2 q2
end
def priceE (a b c : Int) : Ed Nat → Int
  | .keep _ => 0
  | .put _ => a
  | .drop _ => b
  | .swap _ _ => c
def costE (a b c : Int) (es : List (Ed Nat)) : Int := (es.map (priceE a b c)).sum
abbrev NCos : List Str := ["self", "put", "drop", "swap", "prices", "step"]
abbrev NKep : List Str := ["cls", "text", "sign"]
theorem scKep : FnScope NKep ["cls", "text"] (defScope sKept) := ⟨rfl, rfl, rfl, by decide +kernel, rfl, by decide +kernel, by decide +kernel⟩
def spCos (C : Addr) : Sp := fun vs H Q _ => ∃ (p : Addr) (a b c : Int) (es : List (Ed Nat)), vs = [.ref p, .int a, .int b, .int c] ∧ ScAt C H p es ∧ es.length ≤ 100000 ∧ ∀ H', Ex H H' → Q (.int (costE a b c es)) H'
def spKep (C : Addr) : Sp := fun vs H Q _ => ∃ cs : List Nat, vs = [.ref C, .str (tx cs)] ∧ cs.length ≤ 100000 ∧ ∀ x H', Ex H H' → H x = none → ScAt C H' x (keptE cs) → Q (.ref x) H'
theorem val_price (a b c : Int) (e : Ed Nat) : valV (mergeK [] [((.inr "keep" : Key), V.int 0), (.inr "put", V.int a), (.inr "drop", V.int b), (.inr "swap", V.int c)]) (.inr (tag e)) = some (.int (priceE a b c e)) := by cases e <;> rfl
section
variable {P : Program} {w : World} {K : PySem.W.Frag} {mg : Str → Option Value} {base : Heap} {f g fi : Addr} {fd gd fid : FuncData} {C : Addr}
theorem ok_kep (F : Fun K "kept" "Script.kept" sKept f fd) (M : Mk K C fi) (Gi : FnOk P w K mg base CX0 4 fi fid ["self", "steps"] (spIni C)) (bi : Binds K fid ["self", "steps"] []) : FnOk P w K mg base CX0 6 f fd ["cls", "text"] (spKep C) := by
  refine F.ok scKep (fun vs H Q E h => ?_) (fun cdv A outer s H vs Q E hr h => ?_)
  · obtain ⟨_, rfl, _⟩ := h
    rfl
  obtain ⟨cs, rfl, le, q⟩ := h
  have nd := scKep.nd
  refine ⟨_, pss_one (ps_ret (pe_makeL (i := 0) M Gi hr rfl (Or.inl rfl) bi .nil pass0 (pa_cons (pe_lc (own := [("sign", 2)]) (g := gName 2) (tt := tYes) (te := tTup (tCons (tC (.str "keep")) (tCons (tVar 2) tNil))) rfl nd (pi_str (pv 1)) (blkOk_by (N := NKep) (sc := defScope sKept) (by decide +kernel)) (fun _ _ _ _ _ => pg_name (i := 2) nd rfl (Or.inl rfl))
      (fun _ _ _ _ _ => pts_nil) (fun _ _ _ _ _ => pe_tup (pa_cons pe_str (pa_cons (pv 2) pa_nil)))) pa_nil))), ?_⟩
  refine ⟨rfl, _, rfl, tx cs, rfl, fun D hD => ?_⟩
  refine lc_it walk_str (fun i H' => Ex H H' ∧ ∃ acc, H' D = some (.lst acc) ∧ acc.length = i ∧ DqAll (Hd D H') acc (((keptE cs).take i).map edD)) ⟨Ex.new hD, [], upd_same, rfl, .nil⟩ (fun _ _ _ _ => trivial) (fun i y H1 H2 hi z wv => ?_) (fun H3 z => ?_)
  · obtain ⟨z1, acc, z2, z3, z4⟩ := z
    obtain ⟨rfl, c, hc, rfl⟩ := wv
    have hc' : cs[i]? = some c := by simpa [tx] using hc
    have jl := (List.getElem?_eq_some_iff.mp hc').1
    refine ⟨rfl, tyes ⟨_, rfl, nle' (by show 2 ≤ 1000; decide), fun r nr => ?_⟩⟩
    have xr := Ex.new (o := HO.tup [.str "keep", .str ⟨#[c]⟩]) nr
    have nD : D ≠ r := ne_of_none z2 nr
    refine ⟨acc, xr _ _ z2, by rw [sizeLine_eq]; omega, (z1.trans xr).mut hD, acc ++ [.ref r], upd_same, by simp [z3], ?_⟩
    rw [hd_upd_, take_snoc (show (keptE cs)[i]? = some (.keep c) by rw [keptE, List.getElem?_map, hc']; rfl), List.map_append]
    refine (z4.mono fun b o e => hd_of (hd_some e).1 (xr _ _ (hd_some e).2)).snoc ?_
    exact ed_of (e := .keep c) (hd_of nD.symm upd_same)
  obtain ⟨z1, acc, z2, z3, z4⟩ := z
  rw [List.take_of_length_le (by simp [keptE, tx])] at z4
  refine mk_sc z2 (z4.mono hd_le) (kept_ok cs) (by rw [keptE, List.length_map]; exact le) fun x H2 x2 nx sc => q x H2 (z1.trans x2) (by
    cases h : H x with
    | none => rfl
    | some o => rw [z1 _ _ h] at nx; cases nx) sc
end
end Sk


/-! What the law draws: words, signs, prices. -/
namespace Sk
open PySem PySem.Spec PyProof.Rows L2 Evl
theorem chs_new {K : PySem.W.Frag} {H : Hp} {st p : Addr} {xs : List V} {P : V → Prop} (s : Strm st H) (hp : H p = none) (hne : xs ≠ []) (hl : xs.length ≤ 100000) (h : ∀ v ∈ xs, P v) : Chs K (Hd st (upd H p (.lst xs))) (.ref p) P :=
  .inl ⟨p, xs, rfl, .inl (SqL.of (hd_of (s.ne hp) upd_same)), hne, hl, h⟩
structure Drw (P : Program) (w : World) (K : PySem.W.Frag) (mg : Str → Option Value) (base : Heap) (fD fC : Addr) (dD dC : FuncData) : Prop where
  gD : FnOk P w K mg base CX0 1 fD dD ["stream", "size"] spDraw
  bD : Binds K dD ["stream", "size"] []
  kD : PySem.W.keepIn K (.ref fD) = true
  mD : mg "_law_draw" = some (.ref fD)
  gC : FnOk P w K mg base CX0 2 fC dC ["stream", "items"] (spChoose K)
  bC : Binds K dC ["stream", "items"] []
  kC : PySem.W.keepIn K (.ref fC) = true
  mC : mg "_law_choose" = some (.ref fC)
theorem scWord : FnScope ["stream", "high", "signs", "nth"] ["stream", "high", "signs"] (defScope sWord) := ⟨rfl, rfl, rfl, by decide +kernel, rfl, by decide +kernel, by decide +kernel⟩
theorem scSigns : FnScope ["stream", "some"] ["stream"] (defScope sSigns) := ⟨rfl, rfl, rfl, by decide +kernel, rfl, by decide +kernel, by decide +kernel⟩
theorem scMade : FnScope ["steps", "step"] ["steps"] (defScope sMade) := ⟨rfl, rfl, rfl, by decide +kernel, rfl, by decide +kernel, by decide +kernel⟩
def SgOk (z : Str) : Prop := z.cps.toList ≠ [] ∧ z.length ≤ 100 ∧ ∀ c ∈ z.cps.toList, c < 1114112
def spWord : Sp := fun vs H Q _ => ∃ (st : Addr) (h : Nat) (z : Str), vs = [.ref st, .int h, .str z] ∧ Strm st H ∧ h ≤ 1000 ∧ SgOk z ∧ ∀ cs H', cs.length ≤ h → (∀ c ∈ cs, c < 1114112) → Aft st H H' → Q (.str (tx cs)) H'
def spSigns : Sp := fun vs H Q _ => ∃ st : Addr, vs = [.ref st] ∧ Strm st H ∧ ∀ z H', SgOk z → Aft st H H' → Q (.str z) H'
def PriOk (H : Hp) (v : V) (a b c : Int) : Prop := ∃ p, v = .ref p ∧ H p = some (.tup [.int a, .int b, .int c])
def spPri : Sp := fun vs H Q _ => ∃ st : Addr, vs = [.ref st] ∧ Strm st H ∧ ∀ v a b c H', 0 ≤ a → 0 ≤ b → 0 ≤ c → PriOk (Hd st H') v a b c → Aft st H H' → Q v H'
def spMade : Sp := fun vs H Q _ => ∃ (l : Addr) (ws : List V) (es : List (Ed Nat)), vs = [.ref l] ∧ H l = some (.lst ws) ∧ DqAll H ws (es.map edD) ∧ es.length ≤ 100000 ∧ ∀ H', Ex H H' → Q (.str (tx (madeE es))) H'
section
variable {P : Program} {w : World} {K : PySem.W.Frag} {mg : Str → Option Value} {base : Heap} {f g fD fC : Addr} {fd gd dD dC : FuncData}
theorem ok_word (F : Fun K "_law_word" "_law_word" sWord f fd) (W : Drw P w K mg base fD fC dD dC) (B : Blt mg) : FnOk P w K mg base CX0 3 f fd ["stream", "high", "signs"] spWord := by
  refine F.ok scWord (fun vs H Q E h => ?_) (fun cdv A outer s H vs Q E hr h => ?_)
  · obtain ⟨_, _, _, rfl, _⟩ := h
    rfl
  obtain ⟨st, h, z, rfl, hst, lh, hz, q⟩ := h
  have nd := scWord.nd
  have hr1 : Room 1 _ := hr.mono (by decide)
  refine ⟨_, pss_one (ps_ret (pe_join pe_str (pe_lc (own := [("nth", 3)]) (g := gName 3) (tt := tYes) (te := tCall (spChoose K) [] E0 (tCons (tVar 0) (tCons (tVar 2) tNil))) rfl nd (pi_range1 rfl B.range (pa_cons (pe_call W.gD hr1 rfl W.mD W.kD W.bD .nil pass0 (pa_cons (pv 0) (pa_cons (pe_op op_add (pv 1) pe_int) pa_nil))) pa_nil))
      (blkOk_by (N := ["stream", "high", "signs", "nth"]) (sc := defScope sWord) (by decide +kernel)) (fun _ _ _ _ _ => pg_name (i := 3) nd rfl (Or.inl rfl)) (fun _ _ _ _ _ => pts_nil) (fun _ _ _ _ _ => pe_call W.gC hr rfl W.mC W.kC W.bC .nil pass0 (pa_cons (pv 0) (pa_cons (pv 2) pa_nil)))))), ?_⟩
  refine ⟨⟨_, rfl⟩, _, rfl, _, rfl, _, _, rfl, rfl, st, _, rfl, hst, by omega, by omega, fun k H1 k0 k1 A1 => ⟨k, rfl, by omega, by omega, fun L hL => ?_⟩⟩
  have nst := A1.sm.ne hL
  refine lc_range (lo := 0) (fun i H' => Aft st H1 H' ∧ ∃ cs : List Nat, cs.length = i ∧ (∀ c ∈ cs, c < 1114112) ∧ H' L = some (.lst (cs.map fun c => V.str (one c)))) ⟨(Aft.of A1.sm).new hL, [], rfl, (fun _ m => nomatch m), upd_same⟩ (fun i H' hi p => ?_) (fun H' p => ?_)
  · obtain ⟨pA, cs, c1, cv, c2⟩ := p
    refine ⟨rfl, tyes ⟨_, rfl, _, rfl, st, _, fun v => ∃ c, v = .str (one c) ∧ c < 1114112, rfl, pA.sm, .inr ⟨z, rfl, hz.1, by have := hz.2.1; omega, fun c m => ⟨c, rfl, hz.2.2 c m⟩⟩, fun v H2 hv A2 => ?_⟩⟩
    obtain ⟨c, rfl, hc⟩ := hv
    have hL2 : H2 L = some (.lst (cs.map fun c => V.str (one c))) := hd_le _ _ (A2.gr _ _ (hd_of nst c2))
    refine ⟨_, hL2, by rw [sizeLine_eq, List.length_map]; omega, (pA.trans A2).mut nst (by unfold Hd; rw [if_neg nst]; exact hL), cs ++ [c], by simp [c1], (fun x m => (List.mem_append.mp m).elim (cv x) fun m => by cases List.mem_singleton.mp m; exact hc), by rw [upd_same, List.map_append]; rfl⟩
  · obtain ⟨pA, cs, c1, cv, c2⟩ := p
    have e0 : (Str.ofString "").length = 0 := rfl
    refine ⟨_, L, cs.map one, rfl, rfl, .inl (SqL.of (by rw [c2, List.map_map]; rfl)), by rw [sum_one, e0]; omega, ?_⟩
    rw [TL.join_eq]
    have e : Str.join (Str.ofString "") (cs.map one) = tx cs := join_tx cs
    rw [e]
    exact q cs H' (by omega) cv (A1.trans pA)
theorem ok_signs (F : Fun K "_law_signs" "_law_signs" sSigns f fd) (W : Drw P w K mg base fD fC dD dC) : FnOk P w K mg base CX0 3 f fd ["stream"] spSigns := by
  refine F.ok scSigns (fun vs H Q E h => ?_) (fun cdv A outer s H vs Q E hr h => ?_)
  · obtain ⟨_, rfl, _⟩ := h
    rfl
  obtain ⟨st, rfl, hst, q⟩ := h
  have nd := scSigns.nd
  refine ⟨_, pss_cons (ps_set (i := 1) nd rfl (Or.inl rfl) (pe_lst (pa_cons pe_str (pa_cons pe_str (pa_cons pe_str (pa_cons pe_str (pa_cons pe_str (pa_cons pe_str (pa_cons pe_str (pa_cons pe_str (pa_cons pe_str pa_nil)))))))))))
    (pss_one (ps_ret (pe_call W.gC hr rfl W.mC W.kC W.bC .nil pass0 (pa_cons (pv 0) (pa_cons (pe_op op_cat (pv 1) (pe_lst (pa_cons pe_str (pa_cons pe_str (pa_cons pe_str pa_nil))))) pa_nil))))), ?_⟩
  refine ⟨nle' (by show 9 ≤ 1000; decide), fun p np => ⟨_, rfl, _, rfl, nle' (by show 3 ≤ 1000; decide), fun r nr => ⟨p, r, _, _, rfl, rfl, (Ex.new nr) _ _ upd_same, upd_same, nle' (by show 12 ≤ 1000; decide), fun t nt => ?_⟩⟩⟩
  have A1 := (((Aft.of hst).new (o := HO.lst [.str "ab", .str "abc", .str "a", .str "xyz", .str "01", .str "a\n", .str "\"{}", .str "abcdefghijklmnopqrstuvwxyz", .str " !&~-"]) np).new (o := HO.lst [.str "aAbB", .str "Z_a^", .str "9,;B"]) nr)
  refine ⟨st, _, fun v => ∃ z, v = .str z ∧ SgOk z, rfl, (A1.new nt).sm, chs_new A1.sm nt (by simp) (by show 12 ≤ 100000; decide) (fun v m => ?_), fun v H2 hv A2 => ?_⟩
  · have m' : v ∈ ([V.str "ab", .str "abc", .str "a", .str "xyz", .str "01", .str "a\n", .str "\"{}", .str "abcdefghijklmnopqrstuvwxyz", .str " !&~-", .str "aAbB", .str "Z_a^", .str "9,;B"] : List V) := m
    simp only [List.mem_cons, List.not_mem_nil, or_false] at m'
    rcases m' with rfl | rfl | rfl | rfl | rfl | rfl | rfl | rfl | rfl | rfl | rfl | rfl <;> exact ⟨_, rfl, by decide +kernel, by decide +kernel, by decide +kernel⟩
  · obtain ⟨z, rfl, hz⟩ := hv
    exact q z H2 hz ((A1.new nt).trans A2)
theorem ok_made {k : Nat} (F : Fun K "_law_made" "_law_made" sMade f fd) : FnOk P w K mg base CX0 (k + 1) f fd ["steps"] spMade := by
  refine F.ok scMade (fun vs H Q E h => ?_) (fun cdv A outer s H vs Q E hr h => ?_)
  · obtain ⟨_, _, _, rfl, _⟩ := h
    rfl
  obtain ⟨l, ws, es, rfl, hl, hd, le, q⟩ := h
  have nd := scMade.nd
  refine ⟨_, pss_one (ps_ret (pe_join pe_str (pe_lc (own := [("step", 1)]) (g := gName 1) (tt := tTest (tOp rNe (tOp (rIxT K) (tVar 1) (tC (.int 0))) (tC (.str "drop")))) (te := tOp (rIxT K) (tVar 1) (tUn (rU fun i => .int (-i)) (tC (.int 1)))) rfl nd (pi_list (pv 0)) (blkOk_by (N := ["steps", "step"]) (sc := defScope sMade) (by decide +kernel)) (fun _ _ _ _ _ => pg_name (i := 1) nd rfl (Or.inl rfl))
        (fun _ _ _ _ _ => pts_one (pt_cmpR op_ne (pe_ix ix_tup (pv 1) pe_int (fun _ _ => rfl)) pe_str (nomark _))) (fun _ _ _ _ _ => pe_ix ix_tup (pv 1) (pe_un un_neg pe_int) (fun _ _ => rfl))))), ?_⟩
  refine ⟨⟨_, rfl⟩, _, rfl, l, rfl, ⟨_, SqL.of hl⟩, fun D hD => ?_⟩
  refine lc_list (xs := ws) (fun i H' => Ex H H' ∧ H' D = some (.lst ((madeE (es.take i)).map fun c => V.str (one c)))) ⟨Ex.new hD, upd_same⟩ (fun i H' _ z => SqL.of (z.1 _ _ hl)) (fun i x H' hx z => ?_) (fun H5 z => ?_)
  · obtain ⟨z1, z2⟩ := z
    obtain ⟨d, hdd, hq⟩ := hd.get hx
    rw [List.getElem?_map] at hdd
    obtain ⟨e, he, rfl⟩ := Option.map_eq_some_iff.mp hdd
    obtain ⟨a, rfl, ha⟩ := ed_inv (hq.mono z1)
    obtain ⟨r, er⟩ := edV_tag e
    refine ⟨rfl, _, rfl, a, _, _, _, rfl, rfl, SqT.of ha, (by rw [er]; exact atI_nat (j := 0) rfl), rfl, _, rfl, ?_⟩
    rw [tag_drop]
    cases hpe : e.isDrop with
    | true => exact iteF ⟨z1, by rw [made_snoc he, out_drop hpe, List.append_nil]; exact z2⟩
    | false =>
      obtain ⟨c, ec, hc⟩ := atL hpe
      refine iteT ⟨_, rfl, _, rfl, a, _, _, _, rfl, rfl, SqT.of ha, hc, _, z2, ?_, z1.mut hD, ?_⟩
      · rw [sizeLine_eq, List.length_map]
        have := made_len (es.take i)
        rw [List.length_take] at this
        omega
      · rw [upd_same, made_snoc he, ec, List.map_append]; rfl
  obtain ⟨z1, z2⟩ := z
  have lw : ws.length = es.length := by rw [hd.length, List.length_map]
  rw [lw, List.take_length] at z2
  have e0 : (Str.ofString "").length = 0 := rfl
  have ml := made_len es
  refine ⟨_, D, (madeE es).map one, rfl, rfl, .inl (SqL.of (by rw [z2, List.map_map]; rfl)), by rw [sum_one, e0]; omega, ?_⟩
  rw [TL.join_eq]
  have e : Str.join (Str.ofString "") ((madeE es).map one) = tx (madeE es) := join_tx _
  rw [e]
  exact q H5 z1
end
end Sk


/-! What the law draws: steps from a text. -/
namespace Sk
open PySem PySem.Spec PyProof.Rows L2 Evl
theorem hdE {L : Addr} {A B : Hp} (x : Ex A B) : Ex (Hd L A) (Hd L B) := fun b o e => hd_of (hd_some e).1 (x _ _ (hd_some e).2)
theorem newR {st L p : Addr} {H : Hp} {o u : HO} (hL : H L = some u) (s : Strm st H) (np : H p = none) : Hd L (Hd st (upd H p o)) p = some o :=
  hd_of (ne_of_none hL np).symm (hd_of (s.ne np) upd_same)
theorem upR {st L p : Addr} {H : Hp} {o : HO} (np : H p = none) : Ex (Hd L (Hd st H)) (Hd L (Hd st (upd H p o))) := hdE (hdE (Ex.new np))
abbrev NSte : List Str := ["stream", "own", "signs", "found", "nth", "turn", "new", "some", "other"]
theorem scSte : FnScope NSte ["stream", "own", "signs"] (defScope sSteps) := ⟨rfl, rfl, rfl, by decide +kernel, rfl, by decide +kernel, by decide +kernel⟩
def ChOk (e : Ed Nat) : Prop := ∀ c ∈ e.inn ++ e.out, c < 1114112
def spSte : Sp := fun vs H Q _ => ∃ (st : Addr) (cs : List Nat) (z : Str), vs = [.ref st, .str (tx cs), .str z] ∧ Strm st H ∧ cs.length ≤ 1000 ∧ SgOk z ∧ (∀ c ∈ cs, c < 1114112) ∧
  ∀ p H' ws es, Aft st H H' → H p = none → p ≠ st → H' p = some (.lst ws) → DqAll (Hd p (Hd st H')) ws (es.map edD) → givenE es = cs → (∀ e ∈ es, Ed.ok e ∧ ChOk e) → es.length ≤ 3 * (cs.length + 1) → Q (.ref p) H'
/-- steps so far -/
def SteI (st L : Addr) (H' : Hp) (gv : List Nat) (m : Nat) : Prop := ∃ acc es, H' L = some (.lst acc) ∧ DqAll (Hd L (Hd st H')) acc (es.map edD) ∧ givenE es = gv ∧ (∀ e ∈ es, Ed.ok e ∧ ChOk e) ∧ es.length ≤ m
theorem SteI.snoc {st L : Addr} {H1 H2 : Hp} {gv : List Nat} {m : Nat} {e : Ed Nat} {v : V} (h : SteI st L H1 gv m) (nL : L ≠ st) (x : Ex (Hd st H1) (Hd st H2)) (hv : Dq (Hd L (Hd st H2)) v (edD e)) (oe : Ed.ok e ∧ ChOk e) (lm : m ≤ 100000) :
    ∃ acc, H2 L = some (.lst acc) ∧ acc.length < sizeLine ∧ SteI st L (upd H2 L (.lst (acc ++ [v]))) (gv ++ e.inn) (m + 1) := by
  obtain ⟨acc, es, h1, h2, h3, h4, h5⟩ := h
  have l : acc.length = es.length := by rw [h2.length, List.length_map]
  refine ⟨acc, hd_le _ _ (x _ _ (hd_of nL h1)), by rw [sizeLine_eq]; omega, acc ++ [v], es ++ [e], upd_same, ?_, by rw [given_app, h3]; simp [givenE], fun y m => ?_, by simp; omega⟩
  · have e1 : Hd L (Hd st (upd H2 L (.lst (acc ++ [v])))) = Hd L (Hd st H2) := by
      funext b
      unfold Hd
      split
      · rfl
      · split
        · rfl
        · rename_i n _
          rw [upd_ne n]
    rw [e1, List.map_append]
    exact (h2.mono (hdE x)).snoc hv
  · rcases List.mem_append.mp m with m | m
    · exact h4 y m
    · cases List.mem_singleton.mp m; exact oe
theorem SteI.up {st L : Addr} {H1 H2 : Hp} {gv : List Nat} {m : Nat} (h : SteI st L H1 gv m) (nL : L ≠ st) (x : Ex (Hd st H1) (Hd st H2)) : SteI st L H2 gv m := by
  obtain ⟨acc, es, h1, h2, h3, h4, h5⟩ := h
  exact ⟨acc, es, hd_le _ _ (x _ _ (hd_of nL h1)), h2.mono (hdE x), h3, h4, h5⟩
section
variable {P : Program} {w : World} {K : PySem.W.Frag} {mg : Str → Option Value} {base : Heap} {f g fD fC : Addr} {fd gd dD dC : FuncData}
theorem ok_ste (F : Fun K "_law_steps" "_law_steps" sSteps f fd) (W : Drw P w K mg base fD fC dD dC) (B : Blt mg) : FnOk P w K mg base CX0 3 f fd ["stream", "own", "signs"] spSte := by
  refine F.ok scSte (fun vs H Q E h => ?_) (fun cdv A outer s H vs Q E hr h => ?_)
  · obtain ⟨_, _, _, rfl, _⟩ := h
    rfl
  obtain ⟨st, cs, z, rfl, hst, lc, hz, hcs, q⟩ := h
  have nd := scSte.nd
  refine ⟨_, pss_cons (ps_set (i := 3) nd rfl (Or.inl rfl) (pe_lst pa_nil))
    (pss_cons (ps_for PassesOwn.never rfl (pi_range1 rfl B.range (pa_cons (pe_op op_add (pe_callB call_len_str rfl B.len PySem.boot_len (pa_cons (pv 1) pa_nil)) pe_int) pa_nil)) (pg_name (i := 4) nd rfl (Or.inl rfl))
      (pss_cons (ps_for PassesOwn.never rfl (pi_range1 rfl B.range (pa_cons (pe_call W.gC hr rfl W.mC W.kC W.bC .nil pass0 (pa_cons (pv 0) (pa_cons (pe_lst (pa_cons pe_int (pa_cons pe_int (pa_cons pe_int (pa_cons pe_int (pa_cons pe_int pa_nil)))))) pa_nil))) pa_nil)) (pg_name (i := 5) nd rfl (Or.inl rfl))
          (pss_one (ps_expr (pe_bm PySem.F.plainAttrs_list PySem.F.slot_list_append PySem.F.type_list_append mt_append (pv 3) (pa_cons (pe_tup (pa_cons pe_str (pa_cons (pe_call W.gC hr rfl W.mC W.kC W.bC .nil pass0 (pa_cons (pv 0) (pa_cons (pv 2) pa_nil))) pa_nil))) pa_nil)))))
      (pss_one (ps_if (pt_cmpR op_lt (pv 4) (pe_callB call_len_str rfl B.len PySem.boot_len (pa_cons (pv 1) pa_nil)) (nomark _))
        (pss_cons (ps_set (i := 6) nd rfl (Or.inl rfl) (pe_call W.gC hr rfl W.mC W.kC W.bC .nil pass0 (pa_cons (pv 0) (pa_cons (pv 2) pa_nil))))
        (pss_cons (ps_set (i := 7) nd rfl (Or.inl rfl) (pe_lst (pa_cons (pe_tup (pa_cons pe_str (pa_cons (pe_ix ix_str (pv 1) (pv 4) (fun _ _ => rfl)) pa_nil))) (pa_cons (pe_tup (pa_cons pe_str (pa_cons (pe_ix ix_str (pv 1) (pv 4) (fun _ _ => rfl)) pa_nil))) pa_nil))))
        (pss_cons (ps_set (i := 8) nd rfl (Or.inl rfl) (pe_op op_rep (pe_lst (pa_cons (pe_tup (pa_cons pe_str (pa_cons (pe_ix ix_str (pv 1) (pv 4) (fun _ _ => rfl)) (pa_cons (pv 6) pa_nil)))) pa_nil)) (pe_callTy call_int1 rfl B.int bt_int (pa_cons (pe_cmpR op_ne (pv 6) (pe_ix ix_str (pv 1) (pv 4) (fun _ _ => rfl)) (nomark _)) pa_nil))))
        (pss_one (ps_expr (pe_bm PySem.F.plainAttrs_list PySem.F.slot_list_append PySem.F.type_list_append mt_append (pv 3) (pa_cons (pe_call W.gC hr rfl W.mC W.kC W.bC .nil pass0 (pa_cons (pv 0) (pa_cons (pe_op op_cat (pv 7) (pv 8)) pa_nil))) pa_nil))))))) pss_nil))))
    (pss_one (ps_ret (pv 3)))), ?_⟩
  refine ⟨nle' (by show 0 ≤ 1000; decide), fun L hL => ?_⟩
  have nL := hst.ne hL
  have hLn : Hd st H L = none := by unfold Hd; rw [if_neg nL]; exact hL
  have tl : (tx cs).length ≤ sizeLine := line_le (by rw [tx_len]; omega)
  refine ⟨_, rfl, _, rfl, tl, _, _, rfl, rfl, _, rfl, by rw [tx_len]; omega, by rw [tx_len]; omega, for_range (lo := 0) (n := cs.length + 1) (fun i σ H' => Aft st H H' ∧ SteI st L H' (cs.take i) (3 * i) ∧ ∃ y4 y5 y6 y7 y8, σ = [some (.ref st), some (.str (tx cs)), some (.str z), some (.ref L), y4, y5, y6, y7, y8])
    ⟨(Aft.of hst).new hL, ⟨[], [], upd_same, .nil, rfl, (fun e m => nomatch m), Nat.zero_le _⟩, none, none, none, none, none, rfl⟩ (fun i σ H1 hi p => ?_) (fun σ H1 p => ?_)⟩
  · obtain ⟨A1, I1, y4, y5, y6, y7, y8, rfl⟩ := p
    -- some that are put
    refine ⟨_, rfl, nle' (by show 5 ≤ 1000; decide), fun p np => ⟨st, _, fun v => ∃ k : Int, v = .int k ∧ 0 ≤ k ∧ k ≤ 2, rfl, (A1.new np).sm, chs_new A1.sm np (by simp) (by show 5 ≤ 100000; decide) (fun v m => ?_), fun v H2 hv A2 => ?_⟩⟩
    · have m' : v ∈ ([V.int 0, .int 0, .int 0, .int 1, .int 2] : List V) := m
      simp only [List.mem_cons, List.not_mem_nil, or_false] at m'
      rcases m' with rfl | rfl | rfl | rfl | rfl <;> exact ⟨_, rfl, by decide, by decide⟩
    obtain ⟨k, rfl, k0, k2⟩ := hv
    have A12 := (A1.new np).trans A2
    have I2 := (I1.up nL (hdE (Ex.new np))).up nL A2.gr
    refine ⟨k, rfl, by omega, by omega, for_range (lo := 0) (n := k.toNat) (fun j σ H' => Aft st H H' ∧ SteI st L H' (cs.take i) (3 * i + j) ∧ ∃ y5, σ = [some (.ref st), some (.str (tx cs)), some (.str z), some (.ref L), some (.int ((0 : Nat) + (i : Nat) : Int)), y5, y6, y7, y8]) ⟨A12, I2, y5, rfl⟩ (fun j σ H3 hj p => ?_) (fun σ H3 p => ?_)⟩
    · obtain ⟨A3, I3, y5', rfl⟩ := p
      obtain ⟨acc, _, e1, _⟩ := id I3
      refine ⟨_, rfl, .inl ⟨rfl, _, SqL.of e1⟩, _, rfl, _, rfl, st, _, fun v => ∃ c, v = .str (one c) ∧ c < 1114112, rfl, A3.sm, .inr ⟨z, rfl, hz.1, by have := hz.2.1; omega, fun c m => ⟨c, rfl, hz.2.2 c m⟩⟩, fun v H4 hv A4 => ?_⟩
      obtain ⟨c, rfl, hcc⟩ := hv
      refine ⟨nle' (by show 2 ≤ 1000; decide), fun r nr => ?_⟩
      have A5 := (A3.trans A4).new (o := HO.tup [.str "put", .str (one c)]) nr
      have I4 := I3.up nL A4.gr
      obtain ⟨acc4, _, e4, _⟩ := id I4
      obtain ⟨acc', g1, g2, g3⟩ := I4.snoc (e := .put c) (v := .ref r) nL (hdE (Ex.new (o := HO.tup [.str "put", .str (one c)]) nr)) (ed_of (newR e4 A4.sm nr)) ⟨trivial, fun x m => by simp [Ed.inn, Ed.out] at m; subst m; exact hcc⟩ (by omega)
      refine ⟨L, acc', _, rfl, rfl, g1, g2, ?_⟩
      exact ⟨A5.mut nL hLn, by simpa [Ed.inn, Nat.add_assoc] using g3, _, rfl⟩
    obtain ⟨A3, I3, y5', rfl⟩ := p
    have lk : k.toNat ≤ 2 := by omega
    refine ⟨_, rfl, _, rfl, _, rfl, tl, _, _, rfl, rfl, _, rfl, ite2 (fun c => ?_) (fun c => ?_)⟩
    · have c' := of_decide_eq_true c
      rw [tx_len] at c'
      have ic : i < cs.length := by omega
      obtain ⟨a, ha⟩ : ∃ a, cs[i]? = some a := ⟨_, List.getElem?_eq_getElem ic⟩
      have hat : atI (tx cs).cps.toList (((0 : Nat) : Int) + ((i : Nat) : Int)) = some a := by
        have e : ((0 : Nat) : Int) + ((i : Nat) : Int) = ((i : Nat) : Int) := by omega
        rw [e]
        exact atI_nat (by simpa [tx] using ha)
      refine ⟨_, rfl, _, rfl, st, _, fun v => ∃ c, v = .str (one c) ∧ c < 1114112, rfl, A3.sm, .inr ⟨z, rfl, hz.1, by have := hz.2.1; omega, fun c m => ⟨c, rfl, hz.2.2 c m⟩⟩, fun v H4 hv A4 => ?_⟩
      obtain ⟨b, rfl, hbc⟩ := hv
      have hac : a < 1114112 := hcs a (List.mem_of_getElem? ha)
      have A34 := A3.trans A4
      have I4 := I3.up nL A4.gr
      obtain ⟨acc4, _, e4, _⟩ := id I4
      refine ⟨_, rfl, _, rfl, _, _, _, rfl, rfl, tl, hat, nle' (by show 2 ≤ 1000; decide), fun p1 n1 => ?_⟩
      refine ⟨_, rfl, _, rfl, _, _, _, rfl, rfl, tl, hat, nle' (by show 2 ≤ 1000; decide), fun p2 n2 => ⟨nle' (by show 2 ≤ 1000; decide), fun p3 n3 => ?_⟩⟩
      have d1 : Dq (Hd L (Hd st (upd H4 p1 (.tup (edV (.keep a)))))) (.ref p1) (edD (.keep a)) := ed_of (newR e4 A4.sm n1)
      have B1 := A34.new (o := HO.tup (edV (.keep a))) n1
      have e5 := (Ex.new (o := HO.tup (edV (.keep a))) n1) _ _ e4
      have d2 : Dq (Hd L (Hd st (upd (upd H4 p1 (.tup (edV (.keep a)))) p2 (.tup (edV (.drop a)))))) (.ref p2) (edD (.drop a)) := ed_of (newR e5 B1.sm n2)
      have B2 := B1.new (o := HO.tup (edV (.drop a))) n2
      have B3 : Aft st H (upd (upd (upd H4 p1 (.tup (edV (.keep a)))) p2 (.tup (edV (.drop a)))) p3 (.lst [.ref p1, .ref p2])) := B2.new (o := HO.lst [.ref p1, .ref p2]) n3
      have d1' : Dq (Hd L (Hd st (upd (upd (upd H4 p1 (.tup (edV (.keep a)))) p2 (.tup (edV (.drop a)))) p3 (.lst [.ref p1, .ref p2])))) (.ref p1) (edD (.keep a)) := (d1.mono (upR (o := HO.tup (edV (.drop a))) n2)).mono (upR (o := HO.lst [.ref p1, .ref p2]) n3)
      have d2' : Dq (Hd L (Hd st (upd (upd (upd H4 p1 (.tup (edV (.keep a)))) p2 (.tup (edV (.drop a)))) p3 (.lst [.ref p1, .ref p2])))) (.ref p2) (edD (.drop a)) := d2.mono (upR (o := HO.lst [.ref p1, .ref p2]) n3)
      have I5 : SteI st L (upd (upd (upd H4 p1 (.tup (edV (.keep a)))) p2 (.tup (edV (.drop a)))) p3 (.lst [.ref p1, .ref p2])) (cs.take i) (3 * i + k.toNat) := ((I4.up nL (hdE (Ex.new (o := HO.tup (edV (.keep a))) n1))).up nL (hdE (Ex.new (o := HO.tup (edV (.drop a))) n2))).up nL (hdE (Ex.new (o := HO.lst [.ref p1, .ref p2]) n3))
      have h3 : upd (upd (upd H4 p1 (.tup (edV (.keep a)))) p2 (.tup (edV (.drop a)))) p3 (.lst [.ref p1, .ref p2]) p3 = some (.lst [.ref p1, .ref p2]) := upd_same
      change (upd (upd H4 p1 (.tup (edV (.keep a)))) p2 (.tup (edV (.drop a)))) p3 = none at n3
      dsimp only [List.set, gName]
      show tAsg _ _ _ _ (upd (upd (upd H4 p1 (.tup (edV (.keep a)))) p2 (.tup (edV (.drop a)))) p3 (.lst [.ref p1, .ref p2]))
      generalize upd (upd (upd H4 p1 (.tup (edV (.keep a)))) p2 (.tup (edV (.drop a)))) p3 (.lst [.ref p1, .ref p2]) = H5 at B3 d1' d2' I5 h3 ⊢
      clear d1 d2 e4 e5 I4 I3 A34 B1 B2 n1 n2 n3
      obtain ⟨acc5, _, e5, _⟩ := id I5
      refine ⟨_, rfl, _, rfl, _, _, _, rfl, rfl, tl, hat, _, rfl, nle' (by show 3 ≤ 1000; decide), fun p4 n4 => ⟨nle' (by show 1 ≤ 1000; decide), fun p5 n5 => ?_⟩⟩
      have d4 : Dq (Hd L (Hd st (upd H5 p4 (.tup (edV (.swap a b)))))) (.ref p4) (edD (.swap a b)) := ed_of (newR e5 B3.sm n4)
      have u4 := upR (st := st) (L := L) (o := HO.tup (edV (.swap a b))) n4
      have u5 := upR (st := st) (L := L) (o := HO.lst [.ref p4]) n5
      have B4 := (B3.new (o := HO.tup (edV (.swap a b))) n4).new (o := HO.lst [.ref p4]) n5
      have I6 := (I5.up nL (hdE (Ex.new (o := HO.tup (edV (.swap a b))) n4))).up nL (hdE (Ex.new (o := HO.lst [.ref p4]) n5))
      have h3' := (Ex.new (o := HO.lst [.ref p4]) n5) _ _ ((Ex.new (o := HO.tup (edV (.swap a b))) n4) _ _ h3)
      have d1'' := (d1'.mono u4).mono u5
      have d2'' := (d2'.mono u4).mono u5
      have d4'' := d4.mono u5
      have h5 : upd (upd H5 p4 (.tup (edV (.swap a b)))) p5 (.lst [.ref p4]) p5 = some (.lst [.ref p4]) := upd_same
      have hk : (!decide (V.str (one b) = V.str (⟨#[a]⟩ : Str))) = decide (b ≠ a) := by
        by_cases ba : b = a
        · subst ba; simp [one]
        · rw [decide_eq_false (fun z => ba (one_inj (by injection z))), decide_eq_true ba]; rfl
      refine ⟨_, rfl, _, rfl, _, rfl, _, _, _, rfl, rfl, tl, hat, rfl, ?_⟩
      rw [hk]
      refine .inr ⟨_, rfl, p5, _, [.ref p4], rfl, rfl, h5, by split <;> decide, by split <;> decide, by rw [sizeLine_eq]; split <;> simp, fun p6 n6 => ?_⟩
      have hos : ∀ v ∈ (List.replicate (if decide (b ≠ a) = true then (1 : Int) else 0).toNat [V.ref p4]).flatten, v = .ref p4 ∧ b ≠ a := fun v m => by
        by_cases ba : b = a
        · rw [decide_eq_false (fun z => z ba)] at m; simp at m
        · rw [decide_eq_true ba] at m; simp at m; exact ⟨m, ba⟩
      have los : ((List.replicate (if decide (b ≠ a) = true then (1 : Int) else 0).toNat [V.ref p4]).flatten).length ≤ 1 := by
        by_cases ba : b = a
        · rw [decide_eq_false (fun z => z ba)]; simp
        · rw [decide_eq_true ba]; simp
      generalize (List.replicate (if decide (b ≠ a) = true then (1 : Int) else 0).toNat [V.ref p4]).flatten = os at hos los ⊢
      have u6 := upR (st := st) (L := L) (o := HO.lst os) n6
      have B5 := B4.new (o := HO.lst os) n6
      have I7 := I6.up nL (hdE (Ex.new (o := HO.lst os) n6))
      have h3'' := (Ex.new (o := HO.lst os) n6) _ _ h3'
      obtain ⟨acc7, _, e7, _⟩ := id I7
      refine ⟨_, rfl, .inl ⟨rfl, _, SqL.of e7⟩, _, rfl, _, rfl, _, rfl, p3, p6, _, _, rfl, rfl, h3'', upd_same, nle' (by simp; omega), fun p7 n7 => ?_⟩
      have u7 := upR (st := st) (L := L) (o := HO.lst ([.ref p1, .ref p2] ++ os)) n7
      have B6 := B5.new (o := HO.lst ([.ref p1, .ref p2] ++ os)) n7
      have I8 := I7.up nL (hdE (Ex.new (o := HO.lst ([.ref p1, .ref p2] ++ os)) n7))
      refine ⟨st, _, fun v => ∃ e, Dq (Hd L (Hd st (upd (upd (upd (upd H5 p4 (.tup (edV (.swap a b)))) p5 (.lst [.ref p4])) p6 (.lst os)) p7 (.lst ([.ref p1, .ref p2] ++ os))))) v (edD e) ∧ e.inn = [a] ∧ e.ok ∧ ChOk e, rfl, B6.sm, chs_new B5.sm n7 (by simp) (by simp; omega) (fun v m => ?_), fun v H9 hv A9 => ?_⟩
      · simp only [List.cons_append, List.nil_append, List.mem_cons] at m
        rcases m with rfl | rfl | m
        · exact ⟨.keep a, (d1''.mono u6).mono u7, rfl, trivial, fun x m => by simp [Ed.inn, Ed.out] at m; subst m; exact hac⟩
        · exact ⟨.drop a, (d2''.mono u6).mono u7, rfl, trivial, fun x m => by simp [Ed.inn, Ed.out] at m; subst m; exact hac⟩
        · obtain ⟨rfl, ba⟩ := hos v m
          exact ⟨.swap a b, (d4''.mono u6).mono u7, rfl, (fun z => ba z.symm), fun x m => by simp [Ed.inn, Ed.out] at m; rcases m with rfl | rfl; exact hac; exact hbc⟩
      · obtain ⟨e, de, ei, oe⟩ := hv
        obtain ⟨acc', g1, g2, g3⟩ := I8.snoc (e := e) (v := v) nL A9.gr (de.mono (hdE A9.gr)) oe (by omega)
        refine ⟨L, acc', _, rfl, rfl, g1, g2, (B6.trans A9).mut nL hLn, ?_, _, _, _, _, _, rfl⟩
        obtain ⟨acc9, es9, k1, k2, k3, k4, k5⟩ := g3
        exact ⟨acc9, es9, k1, k2, by rw [k3, ei, take_snoc ha], k4, by omega⟩
    · have c' : (tx cs).length ≤ i := by simpa using c
      rw [tx_len] at c'
      have ei : i = cs.length := by omega
      subst ei
      obtain ⟨acc, es, f1, f2, f3, f4, f5⟩ := I3
      exact ⟨A3, ⟨acc, es, f1, f2, by rw [f3, List.take_of_length_le (Nat.le_refl _), List.take_of_length_le (by omega)], f4, by omega⟩, _, _, _, _, _, rfl⟩
  · obtain ⟨A1, ⟨acc, es, h1, h2, h3, h4, h5⟩, y4, y5, y6, y7, y8, rfl⟩ := p
    exact ⟨_, rfl, q L H1 acc es A1 hL nL h1 h2 (by rw [h3, List.take_of_length_le (by omega)]) h4 (by omega)⟩
end
end Sk

/-! What is written out in a display, or drawn before, is made of things that are new since some heap. -/
namespace Sk
open PySem PySem.Spec PyProof.Rows L2 Evl
def LqE (B H0 : Hp) (te : TE) (σ : L2.St) (d : PyData) : Prop := ∀ H Q, Ex H0 H → (∀ v H', Ex H H' → Dq (Nw B H') v d → Q v H') → te σ H Q
def LqA (B H0 : Hp) (ta : TA) (σ : L2.St) (ds : List PyData) : Prop := ∀ H Q, Ex H0 H → (∀ vs H', Ex H H' → DqAll (Nw B H') vs ds → Q vs H') → ta σ H Q
theorem nw_ex {B H H' : Hp} (x : Ex H H') : Ex (Nw B H) (Nw B H') := fun b o h => nw_of (nw_some h).1 (x _ _ (nw_some h).2)
theorem dom_none {B H0 H : Hp} (dm : ∀ a, H0 a = none → B a = none) (x : Ex H0 H) {p : Addr} (np : H p = none) : B p = none := by
  apply dm
  cases q : H0 p with
  | none => rfl
  | some o => rw [x _ _ q] at np; cases np
section
variable {B H0 : Hp} {σ : L2.St} {te tv : TE} {ta : TA} {d : PyData} {ds : List PyData}
theorem lq_nil : LqA B H0 tNil σ [] := fun H Q _ q => q [] H (Ex.refl _) .nil
theorem lq_cons (h : LqE B H0 te σ d) (h2 : LqA B H0 ta σ ds) : LqA B H0 (tCons te ta) σ (d :: ds) := fun H Q x q => h H _ x fun v H1 x1 a => h2 H1 _ (x.trans x1) fun vs H2 x2 b => q (v :: vs) H2 (x1.trans x2) (.cons (a.mono (nw_ex x2)) b)
theorem lq_int {i : Int} : LqE B H0 (tC (.int i)) σ (.int i) := fun H Q _ q => q _ H (Ex.refl _) (.int i)
theorem lq_bl {i : Bool} : LqE B H0 (tC (.bl i)) σ (.bool i) := fun H Q _ q => q _ H (Ex.refl _) (.bl i)
theorem lq_non : LqE B H0 (tC .non) σ .none := fun H Q _ q => q _ H (Ex.refl _) .non
theorem lq_str {z : Str} : LqE B H0 (tC (.str z)) σ (.str z) := fun H Q _ q => q _ H (Ex.refl _) (.str z)
theorem lq_var {i : Nat} {v : V} (e : σ[i]? = some (some v)) (h : Dq (Nw B H0) v d) : LqE B H0 (tVar i) σ d := fun H Q x q => ⟨v, e, q v H (Ex.refl _) (h.mono (nw_ex x))⟩
theorem lq_lst (dm : ∀ a, H0 a = none → B a = none) (h : LqA B H0 ta σ ds) (hl : ds.length ≤ sizeLine) : LqE B H0 (tLst ta) σ (.list ds) := fun H Q x q => h H _ x fun vs H1 x1 a => ⟨by rw [a.length]; exact hl, fun p np => q _ _ (x1.trans (Ex.new np)) (.lst (nw_of (dom_none dm (x.trans x1) np) upd_same) (a.mono (nw_ex (Ex.new np))))⟩
theorem lq_tup (dm : ∀ a, H0 a = none → B a = none) (h : LqA B H0 ta σ ds) (hl : ds.length ≤ sizeLine) : LqE B H0 (tTup ta) σ (.tuple ds) := fun H Q x q => h H _ x fun vs H1 x1 a => ⟨by rw [a.length]; exact hl, fun p np => q _ _ (x1.trans (Ex.new np)) (.tup (nw_of (dom_none dm (x.trans x1) np) upd_same) (a.mono (nw_ex (Ex.new np))))⟩
theorem lq_dnew (dm : ∀ a, H0 a = none → B a = none) : LqE B H0 tDNewK σ (.dict []) := fun H Q x q p np => q _ _ (Ex.new np) (.dct (nw_of (dom_none dm x np) upd_same) .nil)
/-- {k: z} -/
theorem lq_disp (dm : ∀ a, H0 a = none → B a = none) {k z : Str} : LqE B H0 (tDisp [(tC (.str k), tC (.str z))]) σ (.dict [(.str k, .str z)]) := fun H Q x q p np =>
  ⟨upd_same, [(.inr k, .str z)], rfl, by simp, by
    have x2 : Ex H (upd (upd H p (.dK [])) p (.dK [(.inr k, .str z)])) := fun b o e => by
      have n : b ≠ p := ne_of_none e np
      rw [upd_ne n, upd_ne n]; exact e
    exact q _ _ x2 (.dct (kvs := [(.inr k, .str z)]) (nw_of (dom_none dm x np) upd_same) (.cons (.str _) .nil))⟩
end
end Sk

/-! Lists that are written out and put together; a choice of one. -/
namespace Sk
open PySem PySem.Spec PyProof.Rows L2 Evl
theorem dq_app {H : Hp} : ∀ {us vs : List V} {ds es : List PyData}, DqAll H us ds → DqAll H vs es → DqAll H (us ++ vs) (ds ++ es)
  | _, _, _, _, .nil, h => h
  | _, _, _, _, .cons x r, h => .cons x (dq_app r h)
/-- te gives a new list of these data, all of its things new since B -/
def LL (B : Hp) (te : TE) (σ : L2.St) (H : Hp) (ds : List PyData) : Prop := ∀ Q, (∀ p vs H', Ex H H' → H p = none → H' p = some (.lst vs) → DqAll (Nw B H') vs ds → Q (.ref p) H') → te σ H Q
section
variable {B H H0 : Hp} {σ : L2.St} {te : TE} {ta : TA} {ds es : List PyData}
theorem ll_lst (dm : ∀ a, H a = none → B a = none) (h : LqA B H ta σ ds) (hl : ds.length ≤ 1000) : LL B (tLst ta) σ H ds := fun Q q => h H _ (Ex.refl _) fun vs H1 x1 a => ⟨by rw [a.length]; exact nle' hl, fun p np => q p vs _ (x1.trans (Ex.new np)) (ex_none x1 np) upd_same (a.mono (nw_ex (Ex.new np)))⟩
theorem ll_cat {i : Nat} {pa : Addr} {xs : List V} (dm : ∀ a, H a = none → B a = none) (e : σ[i]? = some (some (.ref pa))) (hp : H pa = some (.lst xs)) (hx : DqAll (Nw B H) xs ds) (h : LqA B H ta σ es) (hl : es.length ≤ 1000) (hl2 : ds.length + es.length ≤ 1000) :
    LL B (tOp rCat (tVar i) (tLst ta)) σ H (ds ++ es) := fun Q q => ⟨_, e, h H _ (Ex.refl _) fun vs H1 x1 a => ⟨by rw [a.length]; exact nle' hl, fun p np => ⟨pa, p, xs, vs, rfl, rfl, (x1.trans (Ex.new np)) _ _ hp, upd_same, by rw [hx.length, a.length]; exact nle' hl2, fun r nr => by
    have x2 : Ex H (upd (upd H1 p (.lst vs)) r (.lst (xs ++ vs))) := (x1.trans (Ex.new np)).trans (Ex.new nr)
    exact q r _ _ x2 (ex_none (x1.trans (Ex.new np)) nr) upd_same (dq_app (hx.mono (nw_ex x2)) (a.mono (nw_ex ((Ex.new np).trans (Ex.new nr)))))⟩⟩⟩
theorem sq_ll {i : Nat} {t : TS} {D : Ends} (h : LL B te σ H ds) (k : ∀ p vs H', Ex H H' → H p = none → H' p = some (.lst vs) → DqAll (Nw B H') vs ds → t D (σ.set i (some (.ref p))) H') : tSeq (tAsg te (gName i)) t D σ H := h _ k
theorem dq_mem {H : Hp} : ∀ {vs : List V} {ds : List PyData}, DqAll H vs ds → ∀ v ∈ vs, ∃ d ∈ ds, Dq H v d
  | _, _, .nil, _, m => by cases m
  | _, _, .cons x r, v, m => by
    rcases List.mem_cons.mp m with rfl | m
    · exact ⟨_, List.mem_cons_self .., x⟩
    · obtain ⟨d, h1, h2⟩ := dq_mem r v m
      exact ⟨d, List.mem_cons_of_mem _ h1, h2⟩
theorem ch_ll {K : PySem.W.Frag} {E : XK} {Q : VK} {st : Addr} (sB : Strm st B) (sH : Strm st H) (e : σ[0]? = some (some (.ref st))) (hne : ds ≠ []) (hl : ds.length ≤ 1000) (h : LL B te σ H ds)
    (q : ∀ v d H', d ∈ ds → Aft st H H' → Dq (Nw B H') v d → Q v H') : tCall (spChoose K) [] E (tCons (tVar 0) (tCons te tNil)) σ H Q := by
  refine ⟨_, e, h _ fun p vs H1 x1 np hp hd => ?_⟩
  have A1 : Aft st H H1 := by
    obtain ⟨d, sd, e1, r⟩ := sH
    exact ⟨fun b o eb => hd_of (hd_some eb).1 (x1 _ _ (hd_some eb).2), d, sd, x1 _ _ e1, r⟩
  have np2 : p ≠ st := by
    obtain ⟨d, sd, e1, r⟩ := sH
    exact fun z => by rw [z] at np; rw [np] at e1; cases e1
  refine ⟨st, _, fun v => ∃ d ∈ ds, Dq (Nw B H1) v d, rfl, A1.sm, .inl ⟨p, vs, rfl, .inl (SqL.of (hd_of np2 hp)), ?_, by rw [hd.length]; omega, fun v m => dq_mem hd v m⟩, fun v H2 hv A2 => ?_⟩
  · intro z
    apply hne
    have := hd.length
    rw [z] at this
    exact List.length_eq_zero_iff.mp this.symm
  · obtain ⟨d, m, hq⟩ := hv
    exact q v d H2 m (A1.trans A2) (hq.mono (nw_aft sB A2))
end
end Sk
namespace Sk
open PySem PySem.Spec PyProof.Rows L2 Evl
theorem sq_par {c1 c2 : TE} {i j : Nat} {t : TS} {D : Ends} {σ : L2.St} {H : Hp} (h : c1 σ H fun v H1 => c2 σ H1 fun w H2 => ∃ v' w', [v, w] = [v', w'] ∧ t D ((σ.set i (some v')).set j (some w')) H2) : tSeq (tPar i j (tCons c1 (tCons c2 tNil))) t D σ H := h
theorem rt_of {te : TE} {D : Ends} {σ : L2.St} {H : Hp} (h : te σ H D.rt) : tRet te D σ H := h
theorem ch_ll1 {B H : Hp} {σ : L2.St} {te : TE} {ds : List PyData} {K : PySem.W.Frag} {E : XK} {D : Ends} {st : Addr} (sB : Strm st B) (sH : Strm st H) (e : σ[0]? = some (some (.ref st))) (hne : ds ≠ []) (hl : ds.length ≤ 1000) (h : LL B te σ H ds)
    (q : ∀ v d H', d ∈ ds → Aft st H H' → Dq (Nw B H') v d → D.rt v H') : tRet (tCall (spChoose K) [] E (tCons (tVar 0) (tCons te tNil))) D σ H := ch_ll sB sH e hne hl h q
end Sk

/-! Odd things. -/
namespace Sk
open PySem PySem.Spec PyProof.Rows L2 Evl
abbrev NOdd : List Str := ["stream", "some", "word", "sign"]
theorem scOdd : FnScope NOdd ["stream"] (defScope sOdd) := ⟨rfl, rfl, rfl, by decide +kernel, rfl, by decide +kernel, by decide +kernel⟩
def ftB : PyData → Bool
  | .str x => decide (x.length ≤ 1000)
  | _ => true
def ftsB : PyData → Bool
  | .tuple ds => ds.all ftB
  | _ => true
def okO (d : PyData) : Bool := d.showable && (decide (d.shown.length ≤ 300) && (decide (d.depth ≤ 10) && ftsB d))
def odA : List PyData := [.none, .int 5, .str "keep", .list [], .tuple [], .tuple [.str "keep"], .tuple [.str "keep", .str ""], .tuple [.str "keep", .str "ab"], .tuple [.str "swap", .str "a", .str "a"], .tuple [.str "swap", .str "a"], .bool true]
def odB : List PyData := [.tuple [.str "put", .str "a", .str "b"], .list [.str "keep", .str "a"], .tuple [.str "add", .str "a"], .tuple [.str "keep", .int 5], .tuple [.str "swap", .str "a", .none]]
def odC : List PyData := [.tuple [.str "drop", .str ""], .tuple [.none, .str "a"], .tuple [.str "keep", .list [.str "a"]], .dict [(.str "keep", .str "a")], .tuple [.str "swap", .str "a", .str "b", .str "c"]]
def odD : List PyData := [.tuple [.str "swap", .str "ab", .str "c"], .tuple [.tuple [.str "keep", .str "a"]], .tuple [.list [.str "keep"], .str "a"], .tuple [.str "swap", .str "a", .str "b"], .tuple [.dict [], .str "a"]]
def odE : List PyData := [.tuple [.str "put", .str "\n"], .tuple [.str "Keep", .str "a"], .tuple [.str "drop", .str "a", .str "b"], .tuple [.str "keep", .str "a", .str "a"]]
def odG : List PyData := [.tuple [.str "swap", .str "", .str ""], .tuple [.str "swap", .str "a", .str "ab"], .tuple [.str "drop", .str "a"], .tuple [.str "keep", .none]]
def odF (w : Str) (dS : PyData) : List PyData := [.tuple [(.str w), dS], .tuple [(.str w), dS], .tuple [.str "swap", dS, .str "b"], .tuple [.str "swap", .str "b", dS]]
def odS : List PyData := [.str "", .str "ab", .int 5, .none, .list [.str "a"], .str "abc"]
def odWl : List PyData := [.str "keep", .str "put", .str "drop"]
def odAll (w : Str) (dS : PyData) : List PyData := odA ++ odB ++ odC ++ odD ++ odE ++ odF w dS ++ odG
theorem odd_ok {w : Str} {dS : PyData} (hw : w ∈ (["keep", "put", "drop"] : List Str)) (hs : dS ∈ odS) : ∀ d ∈ odAll w dS, okO d = true := by
  have h : ∀ w ∈ (["keep", "put", "drop"] : List Str), ∀ dS ∈ odS, (odAll w dS).all okO = true := by
    intro w hw dS hs
    simp only [odS, List.mem_cons, List.not_mem_nil, or_false] at hw hs
    rcases hw with rfl | rfl | rfl <;> rcases hs with rfl | rfl | rfl | rfl | rfl | rfl <;> decide +kernel
  exact fun d m => List.all_eq_true.mp (h w hw dS hs) d m
theorem hl_none {st : Addr} {H H' : Hp} (x : Aft st H H') : ∀ a, H' a = none → H a = none := fun _ => x.none
theorem aft_x {st : Addr} {H H1 : Hp} (s : Strm st H) (x : Ex H H1) : Aft st H H1 := ⟨hdE x, by
  obtain ⟨d, sd, e, r⟩ := s
  exact ⟨d, sd, x _ _ e, r⟩⟩
def spOddB : Sp := fun vs H Q _ => ∃ st : Addr, vs = [.ref st] ∧ Strm st H ∧ ∀ v d H', Aft st H H' → Dq (Nw H H') v d → okO d = true → Q v H'
section
variable {P : Program} {w : World} {K : PySem.W.Frag} {mg : Str → Option Value} {base : Heap} {f fD fC : Addr} {fd dD dC : FuncData}
theorem ok_oddB (F : Fun K "_law_odd" "_law_odd" sOdd f fd) (Wr : Drw P w K mg base fD fC dD dC) : FnOk P w K mg base CX0 3 f fd ["stream"] spOddB := by
  refine F.ok scOdd (fun vs H Q E h => ?_) (fun cdv A outer s H vs Q E hr h => ?_)
  · obtain ⟨_, rfl, _⟩ := h
    rfl
  have nd := scOdd.nd
  have hr2 : Room 2 _ := hr
  obtain ⟨st, rfl, hst, q⟩ := h
  refine ⟨_, pss_cons (ps_set (i := 1) nd rfl (Or.inl rfl) (pe_lst (pa_cons pe_non (pa_cons pe_int (pa_cons pe_str (pa_cons (pe_lst pa_nil) (pa_cons (pe_tup pa_nil) (pa_cons (pe_tup (pa_cons pe_str pa_nil)) (pa_cons (pe_tup (pa_cons pe_str (pa_cons pe_str pa_nil))) (pa_cons (pe_tup (pa_cons pe_str (pa_cons pe_str pa_nil))) (pa_cons (pe_tup (pa_cons pe_str (pa_cons pe_str (pa_cons pe_str pa_nil)))) (pa_cons (pe_tup (pa_cons pe_str (pa_cons pe_str pa_nil))) (pa_cons pe_bl pa_nil)))))))))))))
    (pss_cons (ps_set (i := 1) nd rfl (Or.inl rfl) (pe_op op_cat (pv 1) (pe_lst (pa_cons (pe_tup (pa_cons pe_str (pa_cons pe_str (pa_cons pe_str pa_nil)))) (pa_cons (pe_lst (pa_cons pe_str (pa_cons pe_str pa_nil))) (pa_cons (pe_tup (pa_cons pe_str (pa_cons pe_str pa_nil))) (pa_cons (pe_tup (pa_cons pe_str (pa_cons pe_int pa_nil))) (pa_cons (pe_tup (pa_cons pe_str (pa_cons pe_str (pa_cons pe_non pa_nil)))) pa_nil))))))))
    (pss_cons (ps_set (i := 1) nd rfl (Or.inl rfl) (pe_op op_cat (pv 1) (pe_lst (pa_cons (pe_tup (pa_cons pe_str (pa_cons pe_str pa_nil))) (pa_cons (pe_tup (pa_cons pe_non (pa_cons pe_str pa_nil))) (pa_cons (pe_tup (pa_cons pe_str (pa_cons (pe_lst (pa_cons pe_str pa_nil)) pa_nil))) (pa_cons (pe_disp (pps_cons pe_str pe_str pps_nil) rfl rfl (by simp) (by simp)) (pa_cons (pe_tup (pa_cons pe_str (pa_cons pe_str (pa_cons pe_str (pa_cons pe_str pa_nil))))) pa_nil))))))))
    (pss_cons (ps_set (i := 1) nd rfl (Or.inl rfl) (pe_op op_cat (pv 1) (pe_lst (pa_cons (pe_tup (pa_cons pe_str (pa_cons pe_str (pa_cons pe_str pa_nil)))) (pa_cons (pe_tup (pa_cons (pe_tup (pa_cons pe_str (pa_cons pe_str pa_nil))) pa_nil)) (pa_cons (pe_tup (pa_cons (pe_lst (pa_cons pe_str pa_nil)) (pa_cons pe_str pa_nil))) (pa_cons (pe_tup (pa_cons pe_str (pa_cons pe_str (pa_cons pe_str pa_nil)))) (pa_cons (pe_tup (pa_cons pe_dnewK (pa_cons pe_str pa_nil))) pa_nil))))))))
    (pss_cons (ps_set (i := 1) nd rfl (Or.inl rfl) (pe_op op_cat (pv 1) (pe_lst (pa_cons (pe_tup (pa_cons pe_str (pa_cons pe_str pa_nil))) (pa_cons (pe_tup (pa_cons pe_str (pa_cons pe_str pa_nil))) (pa_cons (pe_tup (pa_cons pe_str (pa_cons pe_str (pa_cons pe_str pa_nil)))) (pa_cons (pe_tup (pa_cons pe_str (pa_cons pe_str (pa_cons pe_str pa_nil)))) pa_nil)))))))
    (pss_cons (ps_par (i := 2) (j := 3) rfl nd rfl rfl (by decide) rfl rfl (pa_cons (pe_call Wr.gC hr2 rfl Wr.mC Wr.kC Wr.bC .nil pass0 (pa_cons (pv 0) (pa_cons (pe_lst (pa_cons pe_str (pa_cons pe_str (pa_cons pe_str pa_nil)))) pa_nil))) (pa_cons (pe_call Wr.gC hr2 rfl Wr.mC Wr.kC Wr.bC .nil pass0 (pa_cons (pv 0) (pa_cons (pe_lst (pa_cons pe_str (pa_cons pe_str (pa_cons pe_int (pa_cons pe_non (pa_cons (pe_lst (pa_cons pe_str pa_nil)) (pa_cons pe_str pa_nil))))))) pa_nil))) pa_nil)) (by rfl))
    (pss_cons (ps_set (i := 1) nd rfl (Or.inl rfl) (pe_op op_cat (pv 1) (pe_lst (pa_cons (pe_tup (pa_cons (pv 2) (pa_cons (pv 3) pa_nil))) (pa_cons (pe_tup (pa_cons (pv 2) (pa_cons (pv 3) pa_nil))) (pa_cons (pe_tup (pa_cons pe_str (pa_cons (pv 3) (pa_cons pe_str pa_nil)))) (pa_cons (pe_tup (pa_cons pe_str (pa_cons pe_str (pa_cons (pv 3) pa_nil)))) pa_nil)))))))
    (pss_one (ps_ret (pe_call Wr.gC hr2 rfl Wr.mC Wr.kC Wr.bC .nil pass0 (pa_cons (pv 0) (pa_cons (pe_op op_cat (pv 1) (pe_lst (pa_cons (pe_tup (pa_cons pe_str (pa_cons pe_str (pa_cons pe_str pa_nil)))) (pa_cons (pe_tup (pa_cons pe_str (pa_cons pe_str (pa_cons pe_str pa_nil)))) (pa_cons (pe_tup (pa_cons pe_str (pa_cons pe_str pa_nil))) (pa_cons (pe_tup (pa_cons pe_str (pa_cons pe_non pa_nil))) pa_nil)))))) pa_nil))))))))))), ?_⟩
  have dm0 : ∀ a, H a = none → H a = none := fun _ h => h
  refine sq_ll (ll_lst (B := H) (ds := odA) dm0 ?_ (by show 11 ≤ 1000; decide)) fun p1 v1 H1 x1 n1 e1 a1 => ?_
  · exact (lq_cons lq_non (lq_cons lq_int (lq_cons lq_str (lq_cons (lq_lst dm0 lq_nil (nle' (by decide))) (lq_cons (lq_tup dm0 lq_nil (nle' (by show 0 ≤ 1000; decide))) (lq_cons (lq_tup dm0 (lq_cons lq_str lq_nil) (nle' (by show 1 ≤ 1000; decide))) (lq_cons (lq_tup dm0 (lq_cons lq_str (lq_cons lq_str lq_nil)) (nle' (by show 2 ≤ 1000; decide))) (lq_cons (lq_tup dm0 (lq_cons lq_str (lq_cons lq_str lq_nil)) (nle' (by show 2 ≤ 1000; decide))) (lq_cons (lq_tup dm0 (lq_cons lq_str (lq_cons lq_str (lq_cons lq_str lq_nil))) (nle' (by show 3 ≤ 1000; decide))) (lq_cons (lq_tup dm0 (lq_cons lq_str (lq_cons lq_str lq_nil)) (nle' (by show 2 ≤ 1000; decide))) (lq_cons lq_bl lq_nil)))))))))))
  have k1 : Aft st H H1 := aft_x hst x1
  have dm2 : ∀ a, H1 a = none → H a = none := hl_none k1
  refine sq_ll (ll_cat (B := H) (ds := odA) (es := odB) dm2 rfl e1 a1 ?_ (by show 5 ≤ 1000; decide) (by show 16 ≤ 1000; decide)) fun p2 v2 H2 x2 n2 e2 a2 => ?_
  · exact (lq_cons (lq_tup dm2 (lq_cons lq_str (lq_cons lq_str (lq_cons lq_str lq_nil))) (nle' (by show 3 ≤ 1000; decide))) (lq_cons (lq_lst dm2 (lq_cons lq_str (lq_cons lq_str lq_nil)) (nle' (by decide))) (lq_cons (lq_tup dm2 (lq_cons lq_str (lq_cons lq_str lq_nil)) (nle' (by show 2 ≤ 1000; decide))) (lq_cons (lq_tup dm2 (lq_cons lq_str (lq_cons lq_int lq_nil)) (nle' (by show 2 ≤ 1000; decide))) (lq_cons (lq_tup dm2 (lq_cons lq_str (lq_cons lq_str (lq_cons lq_non lq_nil))) (nle' (by show 3 ≤ 1000; decide))) lq_nil)))))
  have k2 : Aft st H H2 := k1.trans (aft_x k1.sm x2)
  have w2 := k1.sm.ne n2
  clear n2 x2 dm2
  have dm3 : ∀ a, H2 a = none → H a = none := hl_none k2
  refine sq_ll (ll_cat (B := H) (ds := odA ++ odB) (es := odC) dm3 rfl e2 a2 ?_ (by show 5 ≤ 1000; decide) (by show 21 ≤ 1000; decide)) fun p3 v3 H3 x3 n3 e3 a3 => ?_
  · exact (lq_cons (lq_tup dm3 (lq_cons lq_str (lq_cons lq_str lq_nil)) (nle' (by show 2 ≤ 1000; decide))) (lq_cons (lq_tup dm3 (lq_cons lq_non (lq_cons lq_str lq_nil)) (nle' (by show 2 ≤ 1000; decide))) (lq_cons (lq_tup dm3 (lq_cons lq_str (lq_cons (lq_lst dm3 (lq_cons lq_str lq_nil) (nle' (by decide))) lq_nil)) (nle' (by show 2 ≤ 1000; decide))) (lq_cons (lq_disp dm3) (lq_cons (lq_tup dm3 (lq_cons lq_str (lq_cons lq_str (lq_cons lq_str (lq_cons lq_str lq_nil)))) (nle' (by show 4 ≤ 1000; decide))) lq_nil)))))
  have k3 : Aft st H H3 := k2.trans (aft_x k2.sm x3)
  have w3 := k2.sm.ne n3
  clear n3 x3 dm3
  have dm4 : ∀ a, H3 a = none → H a = none := hl_none k3
  refine sq_ll (ll_cat (B := H) (ds := odA ++ odB ++ odC) (es := odD) dm4 rfl e3 a3 ?_ (by show 5 ≤ 1000; decide) (by show 26 ≤ 1000; decide)) fun p4 v4 H4 x4 n4 e4 a4 => ?_
  · exact (lq_cons (lq_tup dm4 (lq_cons lq_str (lq_cons lq_str (lq_cons lq_str lq_nil))) (nle' (by show 3 ≤ 1000; decide))) (lq_cons (lq_tup dm4 (lq_cons (lq_tup dm4 (lq_cons lq_str (lq_cons lq_str lq_nil)) (nle' (by show 2 ≤ 1000; decide))) lq_nil) (nle' (by show 1 ≤ 1000; decide))) (lq_cons (lq_tup dm4 (lq_cons (lq_lst dm4 (lq_cons lq_str lq_nil) (nle' (by decide))) (lq_cons lq_str lq_nil)) (nle' (by show 2 ≤ 1000; decide))) (lq_cons (lq_tup dm4 (lq_cons lq_str (lq_cons lq_str (lq_cons lq_str lq_nil))) (nle' (by show 3 ≤ 1000; decide))) (lq_cons (lq_tup dm4 (lq_cons (lq_dnew dm4) (lq_cons lq_str lq_nil)) (nle' (by show 2 ≤ 1000; decide))) lq_nil)))))
  have k4 : Aft st H H4 := k3.trans (aft_x k3.sm x4)
  have w4 := k3.sm.ne n4
  clear n4 x4 dm4
  have dm5 : ∀ a, H4 a = none → H a = none := hl_none k4
  refine sq_ll (ll_cat (B := H) (ds := odA ++ odB ++ odC ++ odD) (es := odE) dm5 rfl e4 a4 ?_ (by show 4 ≤ 1000; decide) (by show 30 ≤ 1000; decide)) fun p5 v5 H5 x5 n5 e5 a5 => ?_
  · exact (lq_cons (lq_tup dm5 (lq_cons lq_str (lq_cons lq_str lq_nil)) (nle' (by show 2 ≤ 1000; decide))) (lq_cons (lq_tup dm5 (lq_cons lq_str (lq_cons lq_str lq_nil)) (nle' (by show 2 ≤ 1000; decide))) (lq_cons (lq_tup dm5 (lq_cons lq_str (lq_cons lq_str (lq_cons lq_str lq_nil))) (nle' (by show 3 ≤ 1000; decide))) (lq_cons (lq_tup dm5 (lq_cons lq_str (lq_cons lq_str (lq_cons lq_str lq_nil))) (nle' (by show 3 ≤ 1000; decide))) lq_nil))))
  have k5 : Aft st H H5 := k4.trans (aft_x k4.sm x5)
  have w5 := k4.sm.ne n5
  clear n5 x5 dm5
  refine sq_par (ch_ll (B := H) (ds := odWl) hst k5.sm rfl (by simp [odWl]) (by show 3 ≤ 1000; decide) (ll_lst (hl_none k5) ?_ (by show 3 ≤ 1000; decide)) fun v6 d6 H6 m6 y6 q6 => ?_)
  · exact (lq_cons lq_str (lq_cons lq_str (lq_cons lq_str lq_nil)))
  have k6 : Aft st H H6 := k5.trans y6
  refine ch_ll (B := H) (ds := odS) hst k6.sm rfl (by simp [odS]) (by show 6 ≤ 1000; decide) (ll_lst (hl_none k6) ?_ (by show 6 ≤ 1000; decide)) fun v7 dS H7 mS y7 hS => ⟨_, _, rfl, ?_⟩
  · exact (lq_cons lq_str (lq_cons lq_str (lq_cons lq_int (lq_cons lq_non (lq_cons (lq_lst (hl_none k6) (lq_cons lq_str lq_nil) (nle' (by decide))) (lq_cons lq_str lq_nil))))))
  have k7 : Aft st H H7 := k6.trans y7
  have hS7 := hS
  simp only [odWl, List.mem_cons, List.not_mem_nil, or_false] at m6
  obtain ⟨w6, rfl, l6⟩ : ∃ w6 : Str, d6 = .str w6 ∧ w6 ∈ (["keep", "put", "drop"] : List Str) := by
    rcases m6 with rfl | rfl | rfl <;> exact ⟨_, rfl, by simp⟩
  have hW : Dq (Nw H H7) v6 (.str w6) := q6.mono (nw_aft hst y7)
  have e7 := (y6.trans y7).at w5 e5
  have a7 := a5.mono (nw_aft hst (y6.trans y7))
  refine sq_ll (ll_cat (B := H) (ds := odA ++ odB ++ odC ++ odD ++ odE) (es := odF w6 dS) (hl_none k7) rfl e7 a7 ?_ (by show 4 ≤ 1000; decide) (by show 30 + 4 ≤ 1000; decide)) fun p8 v8 H8 x8 n8 e8 a8 => ?_
  · have hS := hS
    exact (lq_cons (lq_tup (hl_none k7) (lq_cons (lq_var (i := 2) rfl hW) (lq_cons (lq_var (i := 3) rfl hS) lq_nil)) (nle' (by show 2 ≤ 1000; decide))) (lq_cons (lq_tup (hl_none k7) (lq_cons (lq_var (i := 2) rfl hW) (lq_cons (lq_var (i := 3) rfl hS) lq_nil)) (nle' (by show 2 ≤ 1000; decide))) (lq_cons (lq_tup (hl_none k7) (lq_cons lq_str (lq_cons (lq_var (i := 3) rfl hS) (lq_cons lq_str lq_nil))) (nle' (by show 3 ≤ 1000; decide))) (lq_cons (lq_tup (hl_none k7) (lq_cons lq_str (lq_cons lq_str (lq_cons (lq_var (i := 3) rfl hS) lq_nil))) (nle' (by show 3 ≤ 1000; decide))) lq_nil))))
  have k8 : Aft st H H8 := k7.trans (aft_x k7.sm x8)
  refine ch_ll1 (B := H) (ds := odAll w6 dS) hst k8.sm rfl (by simp [odAll, odA]) (by show 30 + 4 + 4 ≤ 1000; decide) (ll_cat (B := H) (es := odG) (hl_none k8) rfl e8 a8 ?_ (by show 4 ≤ 1000; decide) (by show 30 + 4 + 4 ≤ 1000; decide)) fun v d H9 m9 y9 q9 => ?_
  · exact (lq_cons (lq_tup (hl_none k8) (lq_cons lq_str (lq_cons lq_str (lq_cons lq_str lq_nil))) (nle' (by show 3 ≤ 1000; decide))) (lq_cons (lq_tup (hl_none k8) (lq_cons lq_str (lq_cons lq_str (lq_cons lq_str lq_nil))) (nle' (by show 3 ≤ 1000; decide))) (lq_cons (lq_tup (hl_none k8) (lq_cons lq_str (lq_cons lq_str lq_nil)) (nle' (by show 2 ≤ 1000; decide))) (lq_cons (lq_tup (hl_none k8) (lq_cons lq_str (lq_cons lq_non lq_nil)) (nle' (by show 2 ≤ 1000; decide))) lq_nil))))
  exact q v d H9 (k8.trans y9) q9 (odd_ok l6 mS d m9)
end
end Sk

/-! {(..): v}; repr of whatever can be shown. -/
namespace Sk
open PySem PySem.Spec PyProof.Rows L2 Evl
/-- a dict written with one key, a tuple -/
def tDispT (tk tv : TE) : TE := fun σ H Q => ∀ p, H p = none → tk σ (upd H p (.dT [])) fun x H1 => tv σ H1 fun y H2 => H2 p = some (.dT []) ∧ ∃ (b : Addr) (k : List L2.Key), x = .ref b ∧ H2 b = some (.tup (k.map kV)) ∧ Q (.ref p) (upd H2 p (.dT [(k, y)]))
theorem pe_dispT {X : Cx} {kx vx : Expr} {pos : Pos} {tk tv : TE} (hu : X.A.units + 64 < cLine) (hk : PE X kx tk) (hv : PE X vx tv) : PE X (.Dict [some kx] [vx] pos) (tDispT tk tv) := by
  refine ⟨fun pins s σ H Q I q => ?_⟩
  have hn := I.hok.fresh (Nat.le_refl s.heap.objs.size)
  have I1 := I.laid (a := s.heap.objs.size) (o := .dT []) (h' := s.heap.push { cls := .type "dict", data := .dict #[] }) (t' := s.toks) (fun _ _ z => Heap.get?_push_of_some _ z) (Nat.le_refl _) (dt_empty s.heap I.big)
  have q0 := q _ hn
  rw [arm_eval_Dict, zip_pairTrees [some kx] [vx] X.env pos rfl rfl, dictDisplay_pairs _ (by simp [pairTrees]) (by simp [pairTrees])]
  refine wpAny_bind (wpAny_standAt (wpAny_bind (wpAny_subDictH (knd := tupleKind (mixKind X.prog X.w)) (show X.A.units < cLine by omega) (by simp [pairTrees]) ?_)))
  refine pairTrees_cons_walk (thn (hk.run pins _ σ _ _ I1 q0) fun u1 s1 ⟨x, H1, J1, r1, q1⟩ => thn (hv.run pins _ σ _ _ J1 q1) fun u2 s2 ⟨y, H2, J2, r2, q2⟩ => pairTrees_nil_walk ?_)
  obtain ⟨e, b, k, rfl, hb, q3⟩ := q2
  cases (show u1 = Value.ref b from r1)
  obtain ⟨z, hd, xs, r0, dd⟩ := dt_of J2.hok e
  cases r0
  refine ⟨[(k, b, u2)], ⟨rfl, rfl, key_of J2.hok hb, trivial⟩, dd, fun h' t2 dd' hs => wpAny_pure ?_⟩
  obtain ⟨o, es, ep, ho, hx, hdt, he, his, hn2⟩ := dd'
  have nb : b ≠ s.heap.objs.size := fun w => by rw [w, e] at hb; cases hb
  have nw : ObjOk X.prog X.w (upd H2 s.heap.objs.size (.dT [(k, y)])) h' s.heap.objs.size (.dT [(k, y)]) := ⟨Nat.le_trans (show 1 ≤ 16000000 by decide) (by decide), hd, [(k, b, u2)], .cons ⟨rfl, by rw [upd_ne nb]; exact hb, r2⟩ .nil, o, es, ep, ho, hx, hdt, he, hn2⟩
  exact ⟨.ref s.heap.objs.size, _, d_write J2 (by rw [e]; exact True.intro) hs ⟨o, ho⟩ nw, rfl, q3⟩
/-- what repr shows of v, while H is what it is -/
def Rpr (H : Hp) (v : V) (d : PyData) : Prop := ∀ (X : Cx) (pins : List (Addr × Obj)) (σ : L2.St) (s : Shared) (u : Value), Inv X pins σ H s → RelV v u → Rx s.heap u d
theorem Rpr.of {H : Hp} {v : V} {d : PyData} (h : Dq H v d) : Rpr H v d := fun _ _ _ _ _ I r => h.rx I r
theorem Rpr.dT {H : Hp} {a : Addr} {k : List L2.Key} {ks : List PyData} {y : V} {d : PyData} (h : H a = some (.dT [(k, y)])) (hk : DqAll H (k.map kV) ks) (hy : Dq H y d) : Rpr H (.ref a) (.dict [(.tuple ks, d)]) := fun X pins σ s u I r => by
  cases (show u = Value.ref a from r)
  obtain ⟨z, hd, xs, r0, o, es, ep, ho, hx, hdt, he, his, hn⟩ := dt_of I.hok h
  cases r0 with
  | @cons p x ps qs h1 h2 =>
    cases h2
    obtain ⟨x1, x2, x3⟩ := x
    obtain ⟨h1, h3, h4⟩ := h1
    have h1 : k = x1 := h1
    subst h1
    have h3 : H x2 = some (.tup (k.map kV)) := h3
    have kx : Rx s.heap (.ref x2) (.tuple ks) := (Dq.tup h3 hk).rx I rfl
    exact .dict hd ho hx.1 hdt (by rw [he]; exact .cons kx .nil) (by rw [he]; exact .cons (hy.rx I h4) .nil)
theorem call_reprG {X : Cx} (hg : X.A.guards = some []) (hu : X.A.units + 64 < cLine) : CallR X (.builtin "repr") (fun xs H Q => ∃ x d, xs = [x] ∧ Rpr H x d ∧ d.showable = true ∧ d.shown.length ≤ sizeLine ∧ d.depth ≤ 60 ∧ Q (.str d.shown) H) := by
  intro pins s σ H xs us Q I r h
  obtain ⟨x, d, rfl, hd, hs, hz, hl, q⟩ := h
  obtain ⟨u, rfl, ru⟩ := vals1 r
  exact call_repr_rx (hd X pins σ s u I ru) hs hz hg (by omega) fun h' u' tk k => ⟨.str d.shown, H, I.kept k, ⟨_, rfl⟩, q⟩
end Sk

/-! What may be shown: small data. -/
namespace Sk
open PySem PySem.Spec PyProof.Rows L2 Evl
theorem line_le' {n : Nat} (h : n ≤ 16000000) : n ≤ sizeLine := Nat.le_trans h (by decide)
/-! ### what may be shown -/
structure Shw (d : PyData) : Prop where
  s : d.showable = true
  z : d.shown.length ≤ sizeLine
  d : d.depth ≤ 60
theorem lsum_mul (B : Nat) : ∀ ts : List Nat, (∀ t ∈ ts, t ≤ B) → ts.sum ≤ ts.length * B
  | [], _ => by simp
  | x :: r, h => by
    have ih := lsum_mul B r fun t m => h t (List.mem_cons_of_mem _ m)
    have := h x List.mem_cons_self
    simp only [List.sum_cons, List.length_cons, Nat.succ_mul]
    omega
theorem shownAll_map : ∀ l : List PyData, PyData.shownAll l = l.map PyData.shown
  | [] => by simp [PyData.shownAll]
  | x :: r => by simp [PyData.shownAll, shownAll_map r]
theorem showAll_of : ∀ l : List PyData, (∀ d ∈ l, d.showable = true) → PyData.showableAll l = true
  | [], _ => by simp [PyData.showableAll]
  | x :: r, h => by simp [PyData.showableAll, h x List.mem_cons_self, showAll_of r fun d m => h d (List.mem_cons_of_mem _ m)]
/-- a list or a tuple of small things -/
theorem shw_seq {xs : List PyData} {m B : Nat} (h : ∀ x ∈ xs, x.showable = true ∧ x.shown.length ≤ B ∧ x.depth ≤ 30) (l : xs.length ≤ m) (b : m * (B + 2) ≤ 15000000) : Shw (.list xs) ∧ Shw (.tuple xs) := by
  have s := lsum_mul B (xs.map fun x => x.shown.length) fun y hy => by
    obtain ⟨x, hx, rfl⟩ := List.mem_map.mp hy
    exact (h x hx).2.1
  rw [List.length_map] at s
  have m1 : xs.length * B ≤ m * B := Nat.mul_le_mul_right _ l
  rw [Nat.mul_add] at b
  have dp : PyData.depthAll xs ≤ 30 := depthAll_le xs fun x m => (h x m).2.2
  have z1 := listText_len_le (PyData.shownAll xs)
  have z2 := tupleText_len_le (PyData.shownAll xs)
  rw [shownAll_map, List.map_map, List.length_map] at z1 z2
  have e : (List.map ((fun x => x.length) ∘ PyData.shown) xs).sum = (xs.map fun x => x.shown.length).sum := rfl
  rw [e] at z1 z2
  refine ⟨⟨by simp only [PyData.showable]; exact showAll_of xs fun d m => (h d m).1, line_le' ?_, by simp only [PyData.depth]; omega⟩, ⟨by simp only [PyData.showable]; exact showAll_of xs fun d m => (h d m).1, line_le' ?_, by simp only [PyData.depth]; omega⟩⟩
  · simp only [PyData.shown]
    rw [shownAll_map]
    omega
  · simp only [PyData.shown]
    rw [shownAll_map]
    omega
/-- a text of signs -/
theorem shw_str {x : Str} (h : ∀ c ∈ x.cps.toList, c < 1114112) : (PyData.str x).showable = true ∧ (PyData.str x).shown.length ≤ 10 * x.length + 2 ∧ (PyData.str x).depth ≤ 30 := by
  refine ⟨rfl, ?_, by simp [PyData.depth]⟩
  simp only [PyData.shown]
  exact PySem.StrLaws.reprText_len x fun c hc => Nat.lt_trans (h c hc) (by decide)
theorem shw_txt {x : Str} (h : ∀ c ∈ x.cps.toList, c < 1114112) (l : x.length ≤ 100000) : Shw (.str x) := by
  obtain ⟨a, b, c⟩ := shw_str h
  exact ⟨a, line_le' (by omega), by omega⟩
end Sk

/-! The things that the law asks about. -/
namespace Sk
open PySem PySem.Spec PyProof.Rows L2 Evl
abbrev NThi : List Str := ["stream", "signs", "steps", "place", "rest", "bent", "twice", "other"]
theorem scThi : FnScope NThi ["stream"] (defScope sThings) := ⟨rfl, rfl, rfl, by decide +kernel, rfl, by decide +kernel, by decide +kernel⟩
/-- something of which repr may tell, and of which it is known what it is -/
structure Itm (x : PyData) : Prop where
  s : x.showable = true
  z : x.shown.length ≤ 300
  d : x.depth ≤ 10
  f : Fts x
theorem itm_ok {d : PyData} (h : okO d = true) : Itm d := by
  unfold okO at h
  simp only [Bool.and_eq_true, decide_eq_true_eq] at h
  obtain ⟨h1, h2, h3, h4⟩ := h
  refine ⟨h1, h2, h3, fun ds e => ?_⟩
  subst e
  intro x m u e
  subst e
  have := List.all_eq_true.mp (show ds.all ftB = true from h4) _ m
  exact of_decide_eq_true this
/-- what else is asked about: an empty list, an empty tuple, or something that is neither -/
def Oth (K : PySem.W.Frag) (U : Hp) (v : V) : Prop := (∃ l, v = .ref l ∧ U l = some (.lst [])) ∨ (∃ l, v = .ref l ∧ U l = some (.tup [])) ∨
  ∃ t d, (∀ H2, Ex U H2 → TyX K H2 v t) ∧ PySem.W.kitAny K t [.type "list", .type "tuple"] = some false ∧ (∀ H2, Ex U H2 → Rpr H2 v d) ∧ Shw d
theorem Oth.mono {K : PySem.W.Frag} {U U' : Hp} {v : V} (x : Ex U U') (h : Oth K U v) : Oth K U' v := by
  rcases h with ⟨l, e, h⟩ | ⟨l, e, h⟩ | ⟨t, d, h1, h2, h3, h4⟩
  · exact .inl ⟨l, e, x _ _ h⟩
  · exact .inr (.inl ⟨l, e, x _ _ h⟩)
  · exact .inr (.inr ⟨t, d, fun H2 y => h1 H2 (x.trans y), h2, fun H2 y => h3 H2 (x.trans y), h4⟩)
theorem up_U {st a0 a2 a4 : Addr} {H3 Hx : Hp} (A : Aft st H3 Hx) (n2 : H3 a2 = none) (n4 : H3 a4 = none) : Ex (Hd a0 (Hd st H3)) (Hd a4 (Hd a2 (Hd a0 Hx))) := fun b o e => by
  obtain ⟨b0, e⟩ := hd_some e
  obtain ⟨bs, e⟩ := hd_some e
  exact hd_of (ne_of_none e n4) (hd_of (ne_of_none e n2) (hd_of b0 (A.at bs e)))
theorem up_N {st a0 a2 a4 : Addr} {H8 H9 Hx : Hp} {o0 o2 os : HO} (A : Aft st H9 Hx) (n4 : H9 a4 = none) (e0 : H8 a0 = some o0) (e2 : H8 a2 = some o2) (es : H8 st = some os) : Ex (Nw H8 H9) (Hd a4 (Hd a2 (Hd a0 Hx))) := fun b o e => by
  obtain ⟨n, e⟩ := nw_some e
  have ne : ∀ {a : Addr} {u : HO}, H8 a = some u → b ≠ a := fun h z => by rw [← z, n] at h; cases h
  exact hd_of (ne_of_none e n4) (hd_of (ne e2) (hd_of (ne e0) (A.at (ne es) e)))
theorem up_M {st a0 : Addr} {H8 H9 : Hp} {o0 os : HO} (e0 : H8 a0 = some o0) (es : H8 st = some os) : Ex (Nw H8 H9) (Hd a0 (Hd st H9)) := fun b o e => by
  obtain ⟨n, e⟩ := nw_some e
  have ne : ∀ {a : Addr} {u : HO}, H8 a = some u → b ≠ a := fun h z => by rw [← z, n] at h; cases h
  exact hd_of (ne e0) (hd_of (ne es) e)
theorem dq_take {H : Hp} : ∀ {vs : List V} {ds : List PyData} (n : Nat), DqAll H vs ds → DqAll H (vs.take n) (ds.take n)
  | _, _, 0, _ => .nil
  | _, _, _ + 1, .nil => .nil
  | _, _, n + 1, .cons x r => .cons x (dq_take n r)
theorem dq_drop {H : Hp} : ∀ {vs : List V} {ds : List PyData} (n : Nat), DqAll H vs ds → DqAll H (vs.drop n) (ds.drop n)
  | _, _, 0, h => h
  | _, _, _ + 1, .nil => .nil
  | _, _, n + 1, .cons _ r => dq_drop n r
theorem dq_cut {H : Hp} {vs : List V} {ds : List PyData} {lo hi : Option Int} (h : DqAll H vs ds) : ∃ es, DqAll H (cutV vs lo hi) es ∧ es.length ≤ ds.length ∧ ∀ d ∈ es, d ∈ ds := by
  unfold cutV
  refine ⟨_, dq_take _ (dq_drop _ h), ?_, fun d m => List.mem_of_mem_drop (List.mem_of_mem_take m)⟩
  rw [List.length_take, List.length_drop]
  omega
theorem shw_ed {e : Ed Nat} (h : ChOk e) : (edD e).showable = true ∧ (edD e).shown.length ≤ 60 ∧ (edD e).depth ≤ 3 := by
  have o1 : ∀ c, c < 1114112 → (PyData.str (one c)).shown.length ≤ 12 := fun c hc => (shw_str (x := one c) (fun x m => by
    simp [one] at m
    subst m; exact hc)).2.1
  have w : ∀ s : Str, s = "keep" ∨ s = "put" ∨ s = "drop" ∨ s = "swap" → (PyData.str s).shown.length ≤ 12 := fun s h => by rcases h with rfl | rfl | rfl | rfl <;> simp only [PyData.shown] <;> decide +kernel
  have t2 : ∀ a b : PyData, a.shown.length ≤ 12 → b.shown.length ≤ 12 → (PyData.tuple [a, b]).shown.length ≤ 60 := fun a b h1 h2 => by
    have z := tupleText_len_le (PyData.shownAll [a, b])
    simp only [PyData.shownAll, List.map_cons, List.map_nil, List.sum_cons, List.sum_nil, List.length_cons, List.length_nil] at z
    simp only [PyData.shown, PyData.shownAll]
    omega
  have t3 : ∀ a b c : PyData, a.shown.length ≤ 12 → b.shown.length ≤ 12 → c.shown.length ≤ 12 → (PyData.tuple [a, b, c]).shown.length ≤ 60 := fun a b c h1 h2 h3 => by
    have z := tupleText_len_le (PyData.shownAll [a, b, c])
    simp only [PyData.shownAll, List.map_cons, List.map_nil, List.sum_cons, List.sum_nil, List.length_cons, List.length_nil] at z
    simp only [PyData.shown, PyData.shownAll]
    omega
  refine ⟨by cases e <;> rfl, ?_, by cases e <;> simp [edD, PyData.depth, PyData.depthAll]⟩
  cases e
  case keep c => exact t2 _ _ (w _ (.inl rfl)) (o1 c (h c (by simp [Ed.inn, Ed.out])))
  case put c => exact t2 _ _ (w _ (.inr (.inl rfl))) (o1 c (h c (by simp [Ed.inn, Ed.out])))
  case drop c => exact t2 _ _ (w _ (.inr (.inr (.inl rfl)))) (o1 c (h c (by simp [Ed.inn, Ed.out])))
  case swap a b => exact t3 _ _ _ (w _ (.inr (.inr (.inr rfl)))) (o1 a (h a (by simp [Ed.inn, Ed.out]))) (o1 b (h b (by simp [Ed.inn, Ed.out])))
theorem fts_ed (e : Ed Nat) : Fts (edD e) := fun ds h x m u ex => by
  subst ex
  have w : ∀ s : Str, s = "keep" ∨ s = "put" ∨ s = "drop" ∨ s = "swap" → s.length ≤ 1000 := fun s h => by rcases h with rfl | rfl | rfl | rfl <;> decide +kernel
  have o : ∀ c : Nat, (one c).length ≤ 1000 := fun c => by show 1 ≤ 1000; decide
  cases e <;> (simp only [edD, PyData.tuple.injEq] at h; subst h; simp only [List.mem_cons, List.not_mem_nil, or_false, PyData.str.injEq] at m)
  case keep c =>
    rcases m with rfl | rfl
    · exact w _ (.inl rfl)
    · exact o _
  case put c =>
    rcases m with rfl | rfl
    · exact w _ (.inr (.inl rfl))
    · exact o _
  case drop c =>
    rcases m with rfl | rfl
    · exact w _ (.inr (.inr (.inl rfl)))
    · exact o _
  case swap a b =>
    rcases m with rfl | rfl | rfl
    · exact w _ (.inr (.inr (.inr rfl)))
    · exact o _
    · exact o _
theorem itm_ed {e : Ed Nat} (h : ChOk e) : Itm (edD e) := by
  obtain ⟨a, b, c⟩ := shw_ed h
  exact ⟨a, by omega, by omega, fts_ed e⟩
theorem kitN {K : PySem.W.Frag} {t : String} (h1 : kitB t "list" = some false) (h2 : kitB t "tuple" = some false) : PySem.W.kitAny K (.type t) [.type "list", .type "tuple"] = some false := kit2 h1 h2
structure Thi (K : PySem.W.Frag) (st : Addr) (H : Hp) (a0 a1 a2 a3 a4 : Addr) (v5 : V) (ws us : List V) (x : V) (es ds : List PyData) (d : PyData) : Prop where
  h0 : H a0 = some (.lst ws)
  h1 : H a1 = some (.tup ws)
  h2 : H a2 = some (.lst us)
  h3 : H a3 = some (.tup us)
  h4 : H a4 = some (.lst (us ++ [x]))
  n02 : a0 ≠ a2
  n04 : a0 ≠ a4
  n24 : a2 ≠ a4
  s0 : a0 ≠ st
  s2 : a2 ≠ st
  s4 : a4 ≠ st
  e0 : DqAll (Hd a4 (Hd a2 (Hd a0 H))) ws es
  e2 : DqAll (Hd a4 (Hd a2 (Hd a0 H))) us ds
  e4 : Dq (Hd a4 (Hd a2 (Hd a0 H))) x d
  l0 : es.length ≤ 90
  l2 : ds.length ≤ 90
  i0 : ∀ d ∈ es, Itm d
  i2 : ∀ d ∈ ds, Itm d
  i4 : Itm d
  o5 : Oth K (Hd a4 (Hd a2 (Hd a0 H))) v5
  s5 : v5 ≠ .ref st
def spThings (K : PySem.W.Frag) : Sp := fun vs H Q _ => ∃ st : Addr, vs = [.ref st] ∧ Strm st H ∧ ∀ T H' a0 a1 a2 a3 a4 v5 ws us x es ds d, Aft st H H' → H' T = some (.lst [.ref a0, .ref a1, .ref a2, .ref a3, .ref a4, v5]) → T ≠ st → T ≠ a0 → T ≠ a2 → T ≠ a4 → v5 ≠ .ref T → H a0 = none → H a2 = none → H a4 = none → (∀ l, v5 = .ref l → H l = none) → H T = none → Thi K st H' a0 a1 a2 a3 a4 v5 ws us x es ds d → Q (.ref T) H'
section
variable {P : Program} {w : World} {K : PySem.W.Frag} {mg : Str → Option Value} {base : Heap} {f fD fC fS fW fT fO : Addr} {fd dD dC dS dW dT dO : FuncData}
theorem ok_things (F : Fun K "_law_things" "_law_things" sThings f fd) (B : Blt mg) (B2 : Blt2 mg) (Dr : Drw P w K mg base fD fC dD dC) (Sg : Lt P w K mg base fS dS "_law_signs" ["stream"] 3 spSigns) (Wo : Lt P w K mg base fW dW "_law_word" ["stream", "high", "signs"] 3 spWord)
    (Ts : Lt P w K mg base fT dT "_law_steps" ["stream", "own", "signs"] 3 spSte) (Od : Lt P w K mg base fO dO "_law_odd" ["stream"] 3 spOddB) : FnOk P w K mg base CX0 4 f fd ["stream"] (spThings K) := by
  refine F.ok scThi (fun vs H Q E h => ?_) (fun cdv A outer s H vs Q E hr h => ?_)
  · obtain ⟨_, rfl, _⟩ := h
    rfl
  have nd := scThi.nd
  have hr1 : Room 1 _ := hr.mono (by decide)
  have hr2 : Room 2 _ := hr.mono (by decide)
  have hr3 : Room 3 _ := hr
  have hu : (A.deeper (envOfC "_law_things" (defScope sThings) s.heap.objs.size f cdv)).units + 64 < cLine := hr.units
  obtain ⟨st, rfl, hst, q⟩ := h
  refine ⟨_, pss_cons (ps_set (i := 1) nd rfl (Or.inl rfl) (pe_call Sg.g hr3 rfl Sg.m Sg.k Sg.b .nil pass0 (pa_cons (pv 0) pa_nil)))
    (pss_cons (ps_set (i := 2) nd rfl (Or.inl rfl) (pe_call Ts.g hr3 rfl Ts.m Ts.k Ts.b .nil pass0 (pa_cons (pv 0) (pa_cons (pe_call Wo.g hr3 rfl Wo.m Wo.k Wo.b .nil pass0 (pa_cons (pv 0) (pa_cons pe_int (pa_cons (pv 1) pa_nil)))) (pa_cons (pv 1) pa_nil)))))
    (pss_cons (ps_set (i := 3) nd rfl (Or.inl rfl) (pe_call Dr.gD hr1 rfl Dr.mD Dr.kD Dr.bD .nil pass0 (pa_cons (pv 0) (pa_cons (pe_op op_add (pe_callB call_len_seq rfl B.len PySem.boot_len (pa_cons (pv 2) pa_nil)) pe_int) pa_nil))))
    (pss_cons (ps_set (i := 4) nd rfl (Or.inl rfl) (pe_slice sl_list (pv 2) (po_some (pe_op op_add (pv 3) (pe_call Dr.gD hr1 rfl Dr.mD Dr.kD Dr.bD .nil pass0 (pa_cons (pv 0) (pa_cons pe_int pa_nil))))) po_none))
    (pss_cons (ps_set (i := 5) nd rfl (Or.inl rfl) (pe_op op_cat (pe_op op_cat (pe_slice sl_list (pv 2) po_none (po_some (pv 3))) (pe_lst (pa_cons (pe_call Od.g hr3 rfl Od.m Od.k Od.b .nil pass0 (pa_cons (pv 0) pa_nil)) pa_nil))) (pv 4)))
    (pss_cons (ps_set (i := 6) nd rfl (Or.inl rfl) (pe_op op_cat (pv 5) (pe_lst (pa_cons (pe_call Od.g hr3 rfl Od.m Od.k Od.b .nil pass0 (pa_cons (pv 0) pa_nil)) pa_nil))))
    (pss_cons (ps_set (i := 7) nd rfl (Or.inl rfl) (pe_call Dr.gC hr2 rfl Dr.mC Dr.kC Dr.bC .nil pass0 (pa_cons (pv 0) (pa_cons (pe_lst (pa_cons pe_non (pa_cons pe_str (pa_cons pe_str (pa_cons pe_int (pa_cons pe_dnewK (pa_cons (pe_dispT hu (pe_tup (pa_cons pe_str (pa_cons pe_str pa_nil))) pe_int) (pa_cons pe_bl (pa_cons (pe_lst pa_nil) (pa_cons (pe_tup pa_nil) pa_nil)))))))))) pa_nil))))
    (pss_one (ps_ret (pe_lst (pa_cons (pv 2) (pa_cons (pe_callTy call_tuple_of rfl B2.tuple bt_tuple (pa_cons (pv 2) pa_nil)) (pa_cons (pv 5) (pa_cons (pe_callTy call_tuple_of rfl B2.tuple bt_tuple (pa_cons (pv 5) pa_nil)) (pa_cons (pv 6) (pa_cons (pv 7) pa_nil))))))))))))))), ?_⟩
  refine ⟨_, rfl, st, rfl, hst, fun z H1 sz A1 => ?_⟩
  refine ⟨_, rfl, _, rfl, _, rfl, st, 5, z, rfl, A1.sm, by decide, sz, fun cs H2 lc oc A2 => ?_⟩
  refine ⟨_, rfl, st, cs, z, rfl, A2.sm, by omega, sz, oc, fun a0 H3 ws es A3 n0 s0 e0 d0 gv ok le => ?_⟩
  have lw : ws.length = es.length := by rw [d0.length, List.length_map]
  refine ⟨_, rfl, _, rfl, a0, ws, rfl, .inl (SqL.of e0), _, _, rfl, rfl, st, _, rfl, A3.sm, by omega, by omega, fun i H4 i0 i1 A4 => ?_⟩
  refine ⟨_, rfl, _, rfl, _, rfl, st, 2, rfl, A4.sm, by decide, by decide, fun j H5 j0 j1 A5 => ⟨_, _, rfl, rfl, _, rfl, a0, ws, rfl, SqL.of ((A4.trans A5).at s0 e0), fun r nr => ?_⟩⟩
  obtain ⟨rs, drs, lrs, mrs⟩ := dq_cut (lo := some (i + j)) (hi := none) d0
  have A6 := ((A4.trans A5).new (o := HO.lst (cutV ws (some (i + j)) none)) nr)
  have fr : upd H5 r (HO.lst (cutV ws (some (i + j)) none)) r = some (.lst (cutV ws (some (i + j)) none)) := upd_same
  have rst : r ≠ st := A5.sm.ne nr
  generalize cutV ws (some (i + j)) none = rv at drs A6 fr ⊢
  generalize upd H5 r (HO.lst rv) = H6 at A6 fr ⊢
  refine ⟨_, rfl, _, rfl, i, rfl, a0, ws, rfl, SqL.of (A6.at s0 e0), fun l1 nl1 => ?_⟩
  obtain ⟨ls, dls, lls, mls⟩ := dq_cut (lo := none) (hi := some i) d0
  have A7 := Aft.new (o := HO.lst (cutV ws none (some i))) (Aft.of A6.sm) nl1
  have fl1 : upd H6 l1 (HO.lst (cutV ws none (some i))) l1 = some (.lst (cutV ws none (some i))) := upd_same
  have l1st : l1 ≠ st := A6.sm.ne nl1
  generalize cutV ws none (some i) = lv at dls A7 fl1 ⊢
  generalize upd H6 l1 (HO.lst lv) = H7 at A7 fl1 ⊢
  have e07 := (A6.trans A7).at s0 e0
  obtain ⟨ost, est⟩ : ∃ o, H7 st = some o := let ⟨_, _, e, _⟩ := A7.sm; ⟨_, e⟩
  refine ⟨_, rfl, st, rfl, A7.sm, fun v1 d1 H8 A8 q1 o1 => ⟨nle' (by show 1 ≤ 1000; decide), fun l2 nl2 => ?_⟩⟩
  have A9 := A8.new (o := HO.lst [v1]) nl2
  have fl2 : upd H8 l2 (HO.lst [v1]) l2 = some (.lst [v1]) := upd_same
  have l2st : l2 ≠ st := A8.sm.ne nl2
  have B9 := (Aft.of A8.sm).new (o := HO.lst [v1]) nl2
  generalize upd H8 l2 (HO.lst [v1]) = H9 at A9 B9 fl2 ⊢
  have llv : lv.length ≤ 18 := by rw [dls.length]; simp only [List.length_map] at lls; omega
  have lrv : rv.length ≤ 18 := by rw [drs.length]; simp only [List.length_map] at lrs; omega
  refine ⟨l1, l2, lv, [v1], rfl, rfl, A9.at l1st fl1, fl2, nle' (by show lv.length + 1 ≤ 1000; omega), fun l3 nl3 => ?_⟩
  have A10 := A9.new (o := HO.lst (lv ++ [v1])) nl3
  have fl3 : upd H9 l3 (HO.lst (lv ++ [v1])) l3 = some (.lst (lv ++ [v1])) := upd_same
  have B10 := B9.new (o := HO.lst (lv ++ [v1])) nl3
  generalize upd H9 l3 (HO.lst (lv ++ [v1])) = H10 at A10 B10 fl3 ⊢
  refine ⟨_, rfl, l3, r, lv ++ [v1], rv, rfl, rfl, fl3, (A7.trans A10).at rst fr, nle' (by simp only [List.length_append, List.length_singleton]; omega), fun a2 na2 => ?_⟩
  have a2st : a2 ≠ st := A10.sm.ne na2
  have A11 := A10.new (o := HO.lst (lv ++ [v1] ++ rv)) na2
  have fa2 : upd H10 a2 (HO.lst (lv ++ [v1] ++ rv)) a2 = some (.lst (lv ++ [v1] ++ rv)) := upd_same
  have B11 := B10.new (o := HO.lst (lv ++ [v1] ++ rv)) na2
  generalize upd H10 a2 (HO.lst (lv ++ [v1] ++ rv)) = H11 at A11 B11 fa2 ⊢
  obtain ⟨ost2, est2⟩ : ∃ o, H11 st = some o := let ⟨_, _, e, _⟩ := A11.sm; ⟨_, e⟩
  refine ⟨_, rfl, _, rfl, st, rfl, A11.sm, fun v2 d2 H12 A12 q2 o2 => ⟨nle' (by show 1 ≤ 1000; decide), fun l4 nl4 => ?_⟩⟩
  have A13 := A12.new (o := HO.lst [v2]) nl4
  have fl4 : upd H12 l4 (HO.lst [v2]) l4 = some (.lst [v2]) := upd_same
  have x13 := Ex.new (o := HO.lst [v2]) nl4
  have B13 := (Aft.of A12.sm).new (o := HO.lst [v2]) nl4
  generalize upd H12 l4 (HO.lst [v2]) = H13 at A13 B13 fl4 x13 ⊢
  refine ⟨a2, l4, _, [v2], rfl, rfl, A13.at a2st fa2, fl4, nle' (by simp only [List.length_append, List.length_singleton]; omega), fun a4 na4 => ?_⟩
  have a4st : a4 ≠ st := A13.sm.ne na4
  have A14 := A13.new (o := HO.lst (lv ++ [v1] ++ rv ++ [v2])) na4
  have fa4 : upd H13 a4 (HO.lst (lv ++ [v1] ++ rv ++ [v2])) a4 = some (.lst (lv ++ [v1] ++ rv ++ [v2])) := upd_same
  have n12a4 : H12 a4 = none := ex_none x13 na4
  have n11a4 : H11 a4 = none := A13.none na4
  have B14 := B13.new (o := HO.lst (lv ++ [v1] ++ rv ++ [v2])) na4
  generalize upd H13 a4 (HO.lst (lv ++ [v1] ++ rv ++ [v2])) = H14 at A14 B14 fa4 ⊢
  refine ⟨_, rfl, fun b1 nb1 b2 nb2 => ⟨nle' (by show 2 ≤ 1000; decide), fun kt nkt => ⟨(Ex.new nkt) _ _ upd_same, kt, [.inr "keep", .inr "a"], rfl, upd_same, ?_⟩⟩⟩
  have nb2' : H14 b2 = none := ex_none (Ex.new nb1) nb2
  have x15 : Ex H14 (upd (upd (upd (upd H14 b1 (.dK [])) b2 (.dT [])) kt (.tup [V.str "keep", .str "a"])) b2 (.dT [([.inr "keep", .inr "a"], .int 1)])) := (((Ex.new nb1).trans (Ex.new nb2)).trans (Ex.new nkt)).mut nb2'
  have k2 : kt ≠ b2 := fun z => by rw [z, upd_same] at nkt; cases nkt
  have b12 : b1 ≠ b2 := fun z => by rw [← z, upd_same] at nb2; cases nb2
  have fb1 : upd (upd (upd (upd H14 b1 (.dK [])) b2 (.dT [])) kt (.tup [V.str "keep", .str "a"])) b2 (.dT [([.inr "keep", .inr "a"], .int 1)]) b1 = some (.dK []) := by
    rw [upd_ne b12]; exact (Ex.new nkt) _ _ ((Ex.new nb2) _ _ upd_same)
  have fkt : upd (upd (upd (upd H14 b1 (.dK [])) b2 (.dT [])) kt (.tup [V.str "keep", .str "a"])) b2 (.dT [([.inr "keep", .inr "a"], .int 1)]) kt = some (.tup [V.str "keep", .str "a"]) := by
    rw [upd_ne k2]; exact upd_same
  have fb2 : upd (upd (upd (upd H14 b1 (.dK [])) b2 (.dT [])) kt (.tup [V.str "keep", .str "a"])) b2 (.dT [([.inr "keep", .inr "a"], .int 1)]) b2 = some (.dT [([.inr "keep", .inr "a"], .int 1)]) := upd_same
  have nkt' : H14 kt = none := ex_none ((Ex.new nb1).trans (Ex.new nb2)) nkt
  generalize upd (upd (upd (upd H14 b1 (.dK [])) b2 (.dT [])) kt (.tup [V.str "keep", .str "a"])) b2 (.dT [([.inr "keep", .inr "a"], .int 1)]) = H15 at x15 fb1 fkt fb2 ⊢
  refine ⟨nle' (by show 0 ≤ 1000; decide), fun b4 nb4 => ⟨nle' (by show 0 ≤ 1000; decide), fun b5 nb5 => ⟨nle' (by show 9 ≤ 1000; decide), fun b6 nb6 => ?_⟩⟩⟩
  have x17 : Ex H14 (upd (upd H15 b4 (.lst [])) b5 (.tup [])) := x15.trans ((Ex.new nb4).trans (Ex.new nb5))
  have x157 : Ex H15 (upd (upd H15 b4 (.lst [])) b5 (.tup [])) := (Ex.new nb4).trans (Ex.new nb5)
  have fb4 : upd (upd H15 b4 (.lst [])) b5 (.tup []) b4 = some (.lst []) := (Ex.new nb5) _ _ upd_same
  have fb5 : upd (upd H15 b4 (.lst [])) b5 (.tup []) b5 = some (.tup []) := upd_same
  have nb4' : H14 b4 = none := ex_none x15 nb4
  have nb5' : H14 b5 = none := ex_none (x15.trans (Ex.new nb4)) nb5
  generalize upd (upd H15 b4 (.lst [])) b5 (.tup []) = H17 at x17 x157 fb4 fb5 nb6 ⊢
  have fb1 := x157 _ _ fb1
  have fb2 := x157 _ _ fb2
  have fkt := x157 _ _ fkt
  have A17 : Aft st H14 H17 := aft_x A14.sm x17
  have A18 := A17.new (o := HO.lst [V.non, .str "", .str "keep", .int 5, .ref b1, .ref b2, .bl true, .ref b4, .ref b5]) nb6
  obtain ⟨ost4, est4⟩ : ∃ o, H14 st = some o := let ⟨_, _, e, _⟩ := A14.sm; ⟨_, e⟩
  have low : ∀ {b : Addr} {o : HO}, H14 b = none → H17 b = some o → Hd a4 (Hd a2 (Hd a0 (Hd st H17))) b = some o := fun n e => by
    have ne : ∀ {a : Addr} {u : HO}, H14 a = some u → _ ≠ a := fun h z => by rw [← z, n] at h; cases h
    exact hd_of (ne fa4) (hd_of (ne (A14.at a2st fa2)) (hd_of (ne ((A11.trans A14).at s0 e07)) (hd_of (ne est4) e)))
  have nst : ∀ {b : Addr}, H14 b = none → b ≠ st := fun n z => by rw [z, est4] at n; cases n
  have sl : Ex (Hd a4 (Hd a2 (Hd a0 (Hd st H17)))) (Hd a4 (Hd a2 (Hd a0 (Hd st H17)))) := Ex.refl _
  refine ⟨st, _, fun v => Oth K (Hd a4 (Hd a2 (Hd a0 (Hd st H17)))) v ∧ ∀ a, v = .ref a → a ≠ st ∧ (∃ o, H17 a = some o) ∧ H14 a = none, rfl, A18.sm, chs_new A17.sm nb6 (by simp) (by show 9 ≤ 100000; decide) (fun v m => ?_), fun v5 H20 hv A20 => ?_⟩
  · simp only [List.mem_cons, List.not_mem_nil, or_false] at m
    have no : ∀ {d}, Dq (Hd a4 (Hd a2 (Hd a0 (Hd st H17)))) v d → kitB (tyD d) "list" = some false → kitB (tyD d) "tuple" = some false → Shw d → Oth K (Hd a4 (Hd a2 (Hd a0 (Hd st H17)))) v := fun h k1 k2 sh =>
      .inr (.inr ⟨_, _, fun H2 x => (h.mono x).ty, kitN k1 k2, fun H2 x => Rpr.of (h.mono x), sh⟩)
    have nr : ∀ {v : V}, (∀ a, v ≠ .ref a) → ∀ a, v = .ref a → a ≠ st ∧ (∃ o, H17 a = some o) ∧ H14 a = none := fun h a e => absurd e (h a)
    have rr : ∀ {b : Addr} {o : HO}, H14 b = none → H17 b = some o → ∀ a, V.ref b = .ref a → a ≠ st ∧ (∃ o, H17 a = some o) ∧ H14 a = none := fun n e a z => by cases z; exact ⟨nst n, ⟨_, e⟩, n⟩
    rcases m with rfl | rfl | rfl | rfl | rfl | rfl | rfl | rfl | rfl
    · exact ⟨no .non (by decide +kernel) (by decide +kernel) ⟨rfl, nle' (by decide +kernel), by decide +kernel⟩, nr (fun _ => by simp)⟩
    · exact ⟨no (.str _) (by decide +kernel) (by decide +kernel) ⟨rfl, nle' (by decide +kernel), by decide +kernel⟩, nr (fun _ => by simp)⟩
    · exact ⟨no (.str _) (by decide +kernel) (by decide +kernel) ⟨rfl, nle' (by decide +kernel), by decide +kernel⟩, nr (fun _ => by simp)⟩
    · exact ⟨no (.int _) (by decide +kernel) (by decide +kernel) ⟨by decide +kernel, nle' (by decide +kernel), by decide +kernel⟩, nr (fun _ => by simp)⟩
    · exact ⟨no (.dct (low nb1 fb1) .nil) (by decide +kernel) (by decide +kernel) ⟨by decide +kernel, nle' (by decide +kernel), by decide +kernel⟩, rr nb1 fb1⟩
    · have kd : DqAll (Hd a4 (Hd a2 (Hd a0 (Hd st H17)))) (([.inr "keep", .inr "a"] : List L2.Key).map kV) [.str "keep", .str "a"] := .cons (.str _) (.cons (.str _) .nil)
      exact ⟨.inr (.inr ⟨.type "dict", .dict [(.tuple [.str "keep", .str "a"], .int 1)], fun H2 x => .base (.dT (x _ _ (low nb2' fb2))), kitN (by decide +kernel) (by decide +kernel), fun H2 x => Rpr.dT (x _ _ (low nb2' fb2)) (kd.mono x) (.int 1), by decide +kernel, nle' (by decide +kernel), by decide +kernel⟩), rr nb2' fb2⟩
    · exact ⟨no (.bl _) (by decide +kernel) (by decide +kernel) ⟨rfl, nle' (by decide +kernel), by decide +kernel⟩, nr (fun _ => by simp)⟩
    · exact ⟨.inl ⟨_, rfl, low nb4' fb4⟩, rr nb4' fb4⟩
    · exact ⟨.inr (.inl ⟨_, rfl, low nb5' fb5⟩), rr nb5' fb5⟩
  obtain ⟨ov5, rv5⟩ := hv
  have A17x : Aft st H17 H20 := (Aft.new (Aft.of A17.sm) nb6).trans A20
  have A14x : Aft st H14 H20 := A17.trans A17x
  have h0 := (A11.trans (A14.trans A14x)).at s0 e07
  have h2 := (A14.trans A14x).at a2st fa2
  have h4 := A14x.at a4st fa4
  refine ⟨_, rfl, _, rfl, a0, ws, rfl, .inl ⟨SqL.of h0, fun a1 na1 => ⟨_, rfl, _, rfl, a2, _, rfl, .inl ⟨SqL.of ((Ex.new na1) _ _ h2), fun a3 na3 => ⟨_, rfl, _, rfl, nle' (by show 6 ≤ 1000; decide), fun T nT => ?_⟩⟩⟩⟩⟩
  have xx := (Ex.new (o := HO.tup ws) na1).trans ((Ex.new (o := HO.tup (lv ++ [v1] ++ rv)) na3).trans (Ex.new (o := HO.lst [.ref a0, .ref a1, .ref a2, .ref a3, .ref a4, v5]) nT))
  have f1 : upd (upd (upd H20 a1 (HO.tup ws)) a3 (HO.tup (lv ++ [v1] ++ rv))) T (HO.lst [.ref a0, .ref a1, .ref a2, .ref a3, .ref a4, v5]) a1 = some (.tup ws) := ((Ex.new na3).trans (Ex.new nT)) _ _ upd_same
  have f3 : upd (upd (upd H20 a1 (HO.tup ws)) a3 (HO.tup (lv ++ [v1] ++ rv))) T (HO.lst [.ref a0, .ref a1, .ref a2, .ref a3, .ref a4, v5]) a3 = some (.tup (lv ++ [v1] ++ rv)) := (Ex.new nT) _ _ upd_same
  have fT : upd (upd (upd H20 a1 (HO.tup ws)) a3 (HO.tup (lv ++ [v1] ++ rv))) T (HO.lst [.ref a0, .ref a1, .ref a2, .ref a3, .ref a4, v5]) T = some (.lst [.ref a0, .ref a1, .ref a2, .ref a3, .ref a4, v5]) := upd_same
  have nT' : H20 T = none := ex_none ((Ex.new na1).trans (Ex.new na3)) nT
  generalize upd (upd (upd H20 a1 (HO.tup ws)) a3 (HO.tup (lv ++ [v1] ++ rv))) T (HO.lst [.ref a0, .ref a1, .ref a2, .ref a3, .ref a4, v5]) = Hx at xx f1 f3 fT ⊢
  have A20x : Aft st H20 Hx := aft_x A20.sm xx
  have neT : ∀ {a : Addr} {o : HO}, H20 a = some o → T ≠ a := fun h z => by rw [z, h] at nT'; cases nT'
  obtain ⟨ost5, est5⟩ : ∃ o, H20 st = some o := let ⟨_, _, e, _⟩ := A20.sm; ⟨_, e⟩
  have A37 : Aft st H3 H7 := A6.trans A7
  have A711 : Aft st H7 Hx := A11.trans (A14.trans (A14x.trans A20x))
  have A8x : Aft st H8 Hx := B11.trans (A14.trans (A14x.trans A20x))
  have n3a2 : H3 a2 = none := (A37.trans A10).none na2
  have n3a4 : H3 a4 = none := (A37.trans (A11.trans A12)).none n12a4
  have W0 := up_U (a0 := a0) (A37.trans A711) n3a2 n3a4
  have U1 : Dq (Hd a4 (Hd a2 (Hd a0 Hx))) v1 d1 := (q1.mono (up_M e07 est)).mono (up_U A8x (B10.none na2) ((B11.trans A12).none n12a4))
  have U2 : Dq (Hd a4 (Hd a2 (Hd a0 Hx))) v2 d2 := q2.mono (up_N (B14.trans (A14x.trans A20x)) n12a4 (A11.at s0 e07) fa2 est2)
  have it1 : ∀ {l : List PyData}, (∀ d ∈ l, d ∈ List.map edD es) → ∀ d ∈ l, Itm d := fun h d m => by
    obtain ⟨e, he, rfl⟩ := List.mem_map.mp (h d m)
    exact itm_ed (ok e he).2
  have A04 := (A1.trans A2).trans A3
  have lll : ls.length ≤ 18 := by simp only [List.length_map] at lls; omega
  have lrr : rs.length ≤ 18 := by simp only [List.length_map] at lrs; omega
  refine q T Hx a0 a1 a2 a3 a4 v5 ws (lv ++ [v1] ++ rv) v2 (es.map edD) (ls ++ [d1] ++ rs) d2 ((((((A1.trans A2).trans A3).trans A37).trans A711))) fT (neT est5) (neT h0) (neT h2) (neT h4) (fun z => ?_) ((A1.trans A2).none n0) (A04.none n3a2) (A04.none n3a4) (fun l e => (A04.trans (A37.trans (A11.trans A14))).none (rv5 l e).2.2) ((A04.trans (A37.trans (A11.trans (A14.trans A14x)))).none nT') ?_
  · obtain ⟨ns, ⟨o, eo⟩, _⟩ := rv5 T z
    rw [A17x.at ns eo] at nT'
    cases nT'
  · exact { h0 := xx _ _ h0, h1 := f1, h2 := xx _ _ h2, h3 := f3, h4 := xx _ _ h4, n02 := ne_of_none (A10.at s0 e07) na2, n04 := ne_of_none ((A11.trans A12).at s0 e07) n12a4, n24 := ne_of_none (A12.at a2st fa2) n12a4, s0 := s0, s2 := a2st, s4 := a4st,
            e0 := d0.mono W0, e2 := dq_app (dq_app (dls.mono W0) (.cons U1 .nil)) (drs.mono W0), e4 := U2,
            l0 := (by rw [List.length_map]; omega), l2 := (by simp only [List.length_append, List.length_singleton]; omega),
            i0 := it1 (fun _ m => m), i2 := fun d m => by
              rcases List.mem_append.mp m with m | m
              · rcases List.mem_append.mp m with m | m
                · exact it1 mls d m
                · cases List.mem_singleton.mp m; exact itm_ok o1
              · exact it1 mrs d m
            i4 := itm_ok o2, o5 := ov5.mono (hdE (hdE (hdE fun b o e => (A17x.trans A20x).at (hd_some e).1 (hd_some e).2))), s5 := fun z => (rv5 _ z).1 rfl }
end
end Sk

/-! A script made of a tuple of steps. -/
namespace Sk
open PySem PySem.Spec PyProof.Rows L2 Evl
def spAreT : Sp := fun vs H Q _ => ∃ (a : Addr) (ws : List V) (es : List (Ed Nat)), vs = [.ref a] ∧ H a = some (.tup ws) ∧ DqAll H ws (es.map edD) ∧ (∀ e ∈ es, Ed.ok e) ∧ ∀ H', Ex H H' → Q (.bl true) H'
def spIniT (C : Addr) : Sp := fun vs H Q _ => ∃ (p l dx : Addr) (ws : List V) (es : List (Ed Nat)), vs = [.ref p, .ref l] ∧ H p = some (.ins C dx []) ∧ H l = some (.tup ws) ∧ DqAll (Hd p H) ws (es.map edD) ∧ (∀ e ∈ es, Ed.ok e) ∧ es.length ≤ 100000 ∧
  ∀ H', Ex (Hd p H) H' → ScAt C H' p es → Q .non H'
section
variable {P : Program} {w : World} {K : PySem.W.Frag} {mg : Str → Option Value} {base : Heap} {f g : Addr} {fd gd : FuncData} {C : Addr}
theorem ok_areT (F : Fun K "are_steps" "are_steps" sAre f fd) (B : Blt mg) (B2 : Blt2 mg) (St : Lt P w K mg base g gd "is_step" ["thing"] 2 spStep) : FnOk P w K mg base CX0 3 f fd ["thing"] spAreT := by
  refine F.ok scAre (fun vs H Q E h => ?_) (fun cdv A outer s H vs Q E hr h => ?_)
  · obtain ⟨_, _, _, rfl, _⟩ := h
    rfl
  obtain ⟨a, ws, es, rfl, ha, hd, oe, q⟩ := h
  have nd := scAre.nd
  have hr2 : Room 2 _ := hr
  refine ⟨_, pss_cons (ps_if (pt_not (pt_val (pe_callB call_isiT rfl B.isi bt_isi (pa_cons (pv 0) (pa_cons (pe_tup (pa_cons (pe_bltn (v := .ty "list") rfl B.list bt_list rfl) (pa_cons (pe_bltn (v := .ty "tuple") rfl B2.tuple bt_tuple rfl) pa_nil))) pa_nil))))) (pss_one (ps_ret pe_bl)) pss_nil)
    (pss_one (ps_ret (pe_cmpR (op_eqD hr.units) (pe_lc (own := [("step", 1)]) (g := gName 1) rfl nd (pi_tup (pv 0)) (blkOk_by (N := ["thing", "step"]) (sc := defScope sAre) (by decide +kernel)) (fun _ _ _ _ _ => pg_name (i := 1) nd rfl (Or.inl rfl))
      (fun _ _ _ _ _ => pts_one (pt_not (pt_val (pe_call St.g hr2 rfl St.m St.k St.b .nil pass0 (pa_cons (pv 1) pa_nil))))) (fun _ _ _ _ _ => pv 1)) (pe_lst pa_nil) (nomark _)))), ?_⟩
  refine ⟨_, rfl, nle' (by show 2 ≤ 1000; decide), fun T hT => ⟨_, T, _, _, _, true, rfl, upd_same, .cons (.ty _) (.cons (.ty _) .nil), .base (.tup ((Ex.new hT) _ _ ha)), kit2 ktl ktt, _, rfl, ?_⟩⟩
  have xT := Ex.new (o := HO.tup [.ty "list", .ty "tuple"]) hT
  generalize upd H T (HO.tup [.ty "list", .ty "tuple"]) = H1 at xT ⊢
  refine ⟨_, rfl, a, rfl, ⟨_, SqT.of (xT _ _ ha)⟩, fun D hD => ?_⟩
  refine lc_tup (xs := ws) (fun i H' => Ex H1 H' ∧ H' D = some (.lst [])) ⟨Ex.new hD, upd_same⟩ (fun i H' _ p => SqT.of (p.1 _ _ (xT _ _ ha))) (fun i x H' hx p => ?_) (fun H' p => ?_)
  · obtain ⟨p1, p2⟩ := p
    obtain ⟨d, hdd, hq⟩ := hd.get hx
    rw [List.getElem?_map] at hdd
    obtain ⟨e, he, rfl⟩ := Option.map_eq_some_iff.mp hdd
    refine ⟨rfl, _, rfl, _, e, rfl, hq.mono (xT.trans p1), oe e (List.mem_of_getElem? he), fun H2 x2 => ⟨_, rfl, ?_⟩⟩
    exact iteF ⟨p1.trans x2, x2 _ _ p2⟩
  · obtain ⟨p1, p2⟩ := p
    refine ⟨nle' (by show 0 ≤ 1000; decide), fun l hl => ⟨.list [], .list [], .lst (SqL.of ((Ex.new hl) _ _ p2)) .nil, .lst (SqL.of upd_same) .nil, rfl, rfl, ?_⟩⟩
    exact q _ (xT.trans (p1.trans (Ex.new hl)))
theorem ok_iniT (F : Fun K "__init__" "Script.__init__" sInit f fd) (B : Blt mg) (B2 : Blt2 mg) (T : ScT K mg C) (Ar : Lt P w K mg base g gd "are_steps" ["thing"] 3 spAreT) : FnOk P w K mg base CX0 4 f fd ["self", "steps"] (spIniT C) := by
  refine F.ok scIni (fun vs H Q E h => ?_) (fun cdv A outer s H vs Q E hr h => ?_)
  · obtain ⟨_, _, _, _, _, rfl, _⟩ := h
    rfl
  obtain ⟨p, l, dx, ws, es, rfl, hp, hl, hd, oe, le, q⟩ := h
  have nd := scIni.nd
  have hr3 : Room 3 _ := hr
  refine ⟨_, pss_cons (ps_if (pt_not (pt_val (pe_call Ar.g hr3 rfl Ar.m Ar.k Ar.b .nil pass0 (pa_cons (pv 1) pa_nil)))) (pss_one ps_never) pss_nil)
    (pss_cons (ps_fld (pv 0) (pe_callTy call_tupleT rfl B2.tuple bt_tuple (pa_cons (pv 1) pa_nil)) rfl)
    (pss_cons (ps_fld (pv 0) (pe_join pe_str (pe_lc (own := [("step", 2)]) (g := gName 2) (tt := tTest (tOp rNe (tOp (rIxT K) (tVar 2) (tC (.int 0))) (tC (.str "put")))) (te := tOp (rIxT K) (tVar 2) (tC (.int 1))) rfl nd (pi_tup (pe_fld (pv 0) rfl)) (blkOk_by (N := NIni) (sc := defScope sInit) (by decide +kernel)) (fun _ _ _ _ _ => pg_name (i := 2) nd rfl (Or.inl rfl))
        (fun _ _ _ _ _ => pts_one (pt_cmpR op_ne (pe_ix ix_tup (pv 2) pe_int (fun _ _ => rfl)) pe_str (nomark _))) (fun _ _ _ _ _ => pe_ix ix_tup (pv 2) pe_int (fun _ _ => rfl)))) rfl)
    (pss_one (ps_fld (pv 0) (pe_join pe_str (pe_lc (own := [("step", 2)]) (g := gName 2) (tt := tTest (tOp rNe (tOp (rIxT K) (tVar 2) (tC (.int 0))) (tC (.str "drop")))) (te := tOp (rIxT K) (tVar 2) (tUn (rU fun i => .int (-i)) (tC (.int 1)))) rfl nd (pi_tup (pe_fld (pv 0) rfl)) (blkOk_by (N := NIni) (sc := defScope sInit) (by decide +kernel)) (fun _ _ _ _ _ => pg_name (i := 2) nd rfl (Or.inl rfl))
        (fun _ _ _ _ _ => pts_one (pt_cmpR op_ne (pe_ix ix_tup (pv 2) pe_int (fun _ _ => rfl)) pe_str (nomark _))) (fun _ _ _ _ _ => pe_ix ix_tup (pv 2) (pe_un un_neg pe_int) (fun _ _ => rfl)))) rfl)))), ?_⟩
  refine ⟨_, rfl, l, ws, es, rfl, hl, hd.mono hd_le, oe, fun H1 x1 => ⟨_, rfl, ?_⟩⟩
  refine iteF ?_
  have hp1 := x1 _ _ hp
  have hl1 := x1 _ _ hl
  have pl : l ≠ p := fun z => by subst z; rw [hl] at hp; cases hp
  refine ⟨_, rfl, l, ws, rfl, SqT.of hl1, _, rfl, p, C, dx, [], rfl, hp1, T.cl, T.nS, (by show 0 < 1000; decide), ?_⟩
  obtain ⟨t, ntp, hl1⟩ : ∃ t, t ≠ p ∧ H1 t = some (.tup ws) ∧ t = l := ⟨l, pl, hl1, rfl⟩
  obtain ⟨hl1, rfl⟩ := hl1
  have x2 : Ex (Hd p H) (Hd p (upd H1 p (.ins C dx (putF "steps" (.ref t) [])))) := fun b o e => by
    obtain ⟨n, e'⟩ := hd_some e
    exact hd_of n (by rw [upd_ne n]; exact x1 _ _ e')
  have ht2 : Hd p (upd H1 p (.ins C dx (putF "steps" (.ref t) []))) t = some (.tup ws) := hd_of ntp (by rw [upd_ne ntp]; exact hl1)
  have hp2 : upd H1 p (.ins C dx (putF "steps" (.ref t) [])) p = some (.ins C dx (putF "steps" (.ref t) [])) := upd_same
  generalize upd H1 p (.ins C dx (putF "steps" (.ref t) [])) = H2 at x2 ht2 hp2 ⊢
  have lk : (putF "steps" (V.ref t) []).lookup ("steps" : Str) = some (.ref t) := by rw [lookup_putF, if_pos rfl]
  -- what it reads
  refine ⟨⟨_, rfl⟩, _, rfl, p, C, dx, _, _, rfl, hp2, T.cl, T.nS, lk, t, rfl, ⟨_, SqT.of (hd_le _ _ ht2)⟩, fun D hD => ?_⟩
  refine lc_tup (xs := ws) (fun i H' => Ex H2 H' ∧ H' D = some (.lst ((givenE (es.take i)).map fun c => V.str (one c)))) ⟨Ex.new hD, upd_same⟩ (fun i H' _ z => SqT.of (z.1 _ _ (hd_le _ _ ht2))) (fun i x H' hx z => ?_) (fun H3 z => ?_)
  · obtain ⟨z1, z2⟩ := z
    obtain ⟨d, hdd, hq⟩ := hd.get hx
    rw [List.getElem?_map] at hdd
    obtain ⟨e, he, rfl⟩ := Option.map_eq_some_iff.mp hdd
    obtain ⟨a, rfl, ha⟩ := ed_inv (hq.mono (x2.trans (hd_le.trans z1)))
    obtain ⟨r, er⟩ := edV_tag e
    refine ⟨rfl, _, rfl, a, _, _, _, rfl, rfl, SqT.of ha, (by rw [er]; exact atI_nat (j := 0) rfl), rfl, _, rfl, ?_⟩
    rw [tag_put]
    cases hpe : e.isPut with
    | true => exact iteF ⟨z1, by rw [given_snoc he, inn_put hpe, List.append_nil]; exact z2⟩
    | false =>
      obtain ⟨c, ec, hc⟩ := at1 hpe
      refine iteT ⟨_, rfl, a, _, _, _, rfl, rfl, SqT.of ha, hc, _, z2, ?_, z1.mut hD, ?_⟩
      · rw [sizeLine_eq, List.length_map]
        have := given_len (es.take i)
        rw [List.length_take] at this
        omega
      · rw [upd_same, given_snoc he, ec, List.map_append]; rfl
  obtain ⟨x3, hD3⟩ := z
  have lw : ws.length = es.length := by rw [hd.length, List.length_map]
  rw [lw, List.take_length] at hD3
  have jn : ∀ cs : List Nat, Txt.join (Str.ofString "") (cs.map one) = tx cs := fun cs => (TL.join_eq _ _).trans (join_tx cs)
  have bn : ∀ cs : List Nat, cs.length ≤ 100000 → ((cs.map one).map (·.length)).sum + (cs.map one).length * (Str.ofString "").length ≤ 16777216 := fun cs h => by
    have e0 : (Str.ofString "").length = 0 := rfl
    rw [sum_one, e0]; omega
  have gl := given_len es
  have ml := made_len es
  refine ⟨_, D, (givenE es).map one, rfl, rfl, .inl (SqL.of (by rw [hD3, List.map_map]; rfl)), bn _ (by omega), ?_⟩
  rw [jn]
  refine ⟨_, rfl, p, C, dx, _, rfl, x3 _ _ hp2, T.cl, T.nG, (by show 1 < 1000; decide), ?_⟩
  have x4 : Ex (Hd p H2) (Hd p (upd H3 p (.ins C dx (putF "given" (.str (tx (givenE es))) (putF "steps" (.ref t) []))))) := fun b o e => by
    obtain ⟨n, e'⟩ := hd_some e
    exact hd_of n (by rw [upd_ne n]; exact x3 _ _ e')
  have hp4 : upd H3 p (.ins C dx (putF "given" (.str (tx (givenE es))) (putF "steps" (.ref t) []))) p = some (.ins C dx (putF "given" (.str (tx (givenE es))) (putF "steps" (.ref t) []))) := upd_same
  generalize upd H3 p (.ins C dx (putF "given" (.str (tx (givenE es))) (putF "steps" (.ref t) []))) = H4 at x4 hp4 ⊢
  have ht4 := x4 _ _ ht2
  have lk2 : (putF "given" (.str (tx (givenE es))) (putF "steps" (V.ref t) [])).lookup ("steps" : Str) = some (.ref t) := by rw [lookup_putF, if_neg sg_, lookup_putF, if_pos rfl]
  -- what it writes
  refine ⟨⟨_, rfl⟩, _, rfl, p, C, dx, _, _, rfl, hp4, T.cl, T.nS, lk2, t, rfl, ⟨_, SqT.of (hd_le _ _ ht4)⟩, fun D' hD' => ?_⟩
  refine lc_tup (xs := ws) (fun i H' => Ex H4 H' ∧ H' D' = some (.lst ((madeE (es.take i)).map fun c => V.str (one c)))) ⟨Ex.new hD', upd_same⟩ (fun i H' _ z => SqT.of (z.1 _ _ (hd_le _ _ ht4))) (fun i x H' hx z => ?_) (fun H5 z => ?_)
  · obtain ⟨z1, z2⟩ := z
    obtain ⟨d, hdd, hq⟩ := hd.get hx
    rw [List.getElem?_map] at hdd
    obtain ⟨e, he, rfl⟩ := Option.map_eq_some_iff.mp hdd
    obtain ⟨a, rfl, ha⟩ := ed_inv (hq.mono ((x2.trans x4).trans (hd_le.trans z1)))
    obtain ⟨r, er⟩ := edV_tag e
    refine ⟨rfl, _, rfl, a, _, _, _, rfl, rfl, SqT.of ha, (by rw [er]; exact atI_nat (j := 0) rfl), rfl, _, rfl, ?_⟩
    rw [tag_drop]
    cases hpe : e.isDrop with
    | true => exact iteF ⟨z1, by rw [made_snoc he, out_drop hpe, List.append_nil]; exact z2⟩
    | false =>
      obtain ⟨c, ec, hc⟩ := atL hpe
      refine iteT ⟨_, rfl, _, rfl, a, _, _, _, rfl, rfl, SqT.of ha, hc, _, z2, ?_, z1.mut hD', ?_⟩
      · rw [sizeLine_eq, List.length_map]
        have := made_len (es.take i)
        rw [List.length_take] at this
        omega
      · rw [upd_same, made_snoc he, ec, List.map_append]; rfl
  obtain ⟨x5, hD5⟩ := z
  rw [lw, List.take_length] at hD5
  refine ⟨_, D', (madeE es).map one, rfl, rfl, .inl (SqL.of (by rw [hD5, List.map_map]; rfl)), bn _ (by omega), ?_⟩
  rw [jn]
  refine ⟨_, rfl, p, C, dx, _, rfl, x5 _ _ hp4, T.cl, T.nM, ?_, ?_⟩
  · show (putF "given" (.str (tx (givenE es))) (putF "steps" (V.ref t) [])).length < 1000
    show (if ("steps" : Str) = "given" then _ else _ : List (Str × V)).length < 1000
    rw [if_neg sg_]
    show 2 < 1000
    decide
  have x6 : Ex (Hd p H4) (upd H5 p (.ins C dx (sf t (tx (givenE es)) (tx (madeE es))))) := fun b o e => by
    obtain ⟨n, e'⟩ := hd_some e
    rw [upd_ne n]; exact x5 _ _ e'
  have xA : Ex (Hd p H) (upd H5 p (.ins C dx (sf t (tx (givenE es)) (tx (madeE es))))) := (x2.trans x4).trans x6
  exact q _ xA ⟨dx, t, ws, upd_same, x6 _ _ ht4, hd.mono xA⟩
end
end Sk

/-! An own error class over ValueError whose __init__ stores its one argument: made as a value, read, asked for its class. -/
namespace PySem
namespace SkE
open PySem.W PySem.Calls PyProof.Rows PySem.HandSPX
def iA (at_ : Str) (p1 p2 : Pos) : Arguments := { posonlyargs := [], args := [{ arg := "self", annotation := none, pos := p1 }, { arg := at_, annotation := none, pos := p2 }], vararg := none, kwonlyargs := [], kw_defaults := [], kwarg := none, defaults := [] }
def iB (at_ : Str) (q1 q2 q3 q4 : Pos) : List Stmt := [.Assign [.Attribute (.Name "self" q1) at_ q2] (.Name at_ q3) q4]
def iS (at_ : Str) : Scope := { kind := .function, names := [(PySem.Str.ofString "self", .local), (at_, .local)], isGenerator := false, isCoroutine := false, more := [] }
structure ErrTxt (K : Frag) (mg : Str → Option Value) (cl at_ qn : Str) (C fI : Addr) : Prop where
  gC : mg cl = some (.ref C)
  cls : ∃ nm q N bs bm sn sub ab col dd k0 k1 k2 k3 k5, K.lookup C = some (excClassObj nm q C N bs bm true sn sub ab col dd k0 k1 k2 k3 k5 "ValueError.__new__") ∧ refsVE bm = true
  sa : findIn K (.ref C) "__setattr__" = some (some (.builtin "object.__setattr__"))
  ga : findIn K (.ref C) "__getattribute__" = some (some (.builtin "BaseException.__getattribute__"))
  gg : findIn K (.ref C) "__getattr__" = some none
  noN : findIn K (.ref C) at_ = some none
  iC : findIn K (.ref C) "__init__" = some (some (.ref fI))
  tC : typeIn K (.ref fI) = some (.type "function")
  kC : keepIn K (.ref C) = true
  exC : subIn K (.ref C) (.type "BaseException") = some true
  tyC : typeIn K (.ref C) = some (.type "type")
  hdC : hasDictIn K C = true
  fn : ∃ (oc : Value) (od : Option Addr) (doc pm : Value) (an : Option Addr) (cdv ct : Value) (osl : Array (Option Value)) (p1 p2 q1 q2 q3 q4 : Pos),
    K.lookup fI = some ⟨oc, od, .func (fnOf "__init__" qn (iA at_ p1 p2) (iB at_ q1 q2 q3 q4) (iS at_) .none .none doc pm an cdv ct), osl⟩ ∧ codeIn K cdv qn = true
  -- of isinstance
  cl_ : (clsIn K C).isSome = true
  hCl : findIn K (.ref C) "__class__" = some (some (.builtin "object.__class__"))
  hGt : specialIn K (.builtin "object.__class__") "__get__" = some (some (.builtin "getset_descriptor.__get__"))
  hTk : takesIn K (.builtin "object.__class__") = some true
  hOb : mroIn K C (.type "object") = some true
structure InitEnd (at_ : Str) (h h' : Heap) (x C dx t1 : Addr) (v : Value) : Prop where
  keep : ∀ b o, b ≠ x → h.get? b = some o → h'.get? b = some o
  obj : h'.get? x = some { cls := .ref C, dict := some dx, data := .fields #[.ref t1, .none, .none, .none, .bool false, .none] }
  dbig : h.objs.size ≤ dx
  dne : dx ≠ x
  ns : h'.Ns1 dx (fun y => if y = at_ then some v else none)
structure OwnMade (at_ : Str) (h h' : Heap) (e C d : Addr) (v : Value) : Prop where
  keep : ∀ b o, h.get? b = some o → h'.get? b = some o
  new : h.objs.size ≤ e
  obj : ∃ oe vs, h'.get? e = some oe ∧ oe.cls = .ref C ∧ oe.dict = some d ∧ oe.data = .fields vs ∧ vs[1]? = some .none
  dbig : h.objs.size ≤ d
  dne : d ≠ e
  ns : h'.Ns1 d (fun y => if y = at_ then some v else none)
theorem ldC {M : Model} {s : Shared} {name : Str} {scope : Scope} {L a : Addr} {cd : Value} {m : Str → Option Value} {x : Str} {pos : Pos} {v : Value} {Q : Value → Shared → Prop} {A : Around} {E : Value → Shared → Prop} (hn : s.heap.Ns L m) (hv : m x = some v) (h : Q v s)
    (hk : scope.kind = .function := by rfl) (hl : (envOfC name scope L a cd).kindOf x = some .local := by rfl) (hd : (x == ("__debug__" : Str)) = false := by decide) :
    wpAny M A (eval (.Name x pos) (envOfC name scope L a cd)) Q E s := wpAny_Name (wpAny_loadName_local hk hl hn hv h) hd
/-- what __init__ does, called by position or by name -/
def InitOk (K : Frag) (at_ : Str) (C fI : Addr) : Prop := ∀ (prog : Program) (w : World) (A : Around) (R : Result → Shared → Prop) (s : Shared) (args : Args) (x t0 : Addr) (v : Value), (args = ⟨[.ref x, v], []⟩ ∨ args = ⟨[.ref x], [(at_, v)]⟩) →
  K.In s.heap → s.heap.NoLimit → s.heap.get? x = some (excO C t0) → K.lookup x = none → A.depth < recursionLimit → (∀ h' tk dx, InitEnd at_ s.heap h' x C dx t0 v → R (.ok (.ret .none)) { s with heap := h', toks := tk }) → codeAny (model prog w) A (.call (.ref fI) args) R s
theorem init_position {K : Frag} {mg : Str → Option Value} {cl qn : Str} {C fI : Addr} (T : ErrTxt K mg cl "position" qn C fI) : InitOk K "position" C fI := by
  intro prog w A R s args x t0 v hargs X hlim hx hnx hroom hq
  obtain ⟨oc, od, doc, pm, an, cdv, ct, osl, p1, p2, q1, q2, q3, q4, ho, hcd⟩ := T.fn
  obtain ⟨nm, q, N, bs, bm, sn, sub, ab, col, dd, k0, k1, k2, k3, k5, hC, hbm⟩ := T.cls
  have hcl : clsIn K C = some { name := nm, bases := bs, mro := .ref C :: bm, ns := N, qualname := q, hasDict := true, slotNames := sn, subclasses := sub, abstract := ab, collection := col, hasDel := false } := by unfold clsIn; rw [hC] <;> rfl
  have hb : BindsTo s (fnOf "__init__" qn (iA "position" p1 p2) (iB "position" q1 q2 q3 q4) (iS "position") .none .none doc pm an cdv ct) args [("self", .ref x), ("position", v)] := by
    rcases hargs with rfl | rfl
    · exact .of_eq (by first | rfl | with_unfolding_all rfl)
    · exact .of_eq (by first | rfl | with_unfolding_all rfl)
  refine Att.call_fn (binds := [("self", .ref x), ("position", v)]) X hlim ho hcd hroom hb (by first | rfl | decide | with_unfolding_all rfl) (fun s₁ IC => ?_) rfl rfl rfl
  obtain ⟨h₁, tk₁, rfl⟩ := IC.toInCall.same
  have k := IC.toInCall.keep
  have hn := IC.toInCall.ns
  have X₁ : K.In h₁ := X.keeps k
  have hx₁ := k _ _ hx
  show wpAny _ _ (execs _ _) _ _ _
  refine wpAny_execs_cons (plainObj_wpAny_Assign_Attribute (ldC (v := v) hn (by first | rfl | with_unfolding_all rfl | kernel_rfl) (ldC (v := .ref x) hn (by first | rfl | with_unfolding_all rfl | kernel_rfl) ?_)))
  refine set_plain X₁ (ox := excO C t0) (od := none) ⟨hx₁, rfl, rfl, trivial⟩ T.sa (exc_osa X₁ hx₁ hcl (show refsVE (.ref C :: bm) = true from hbm) rfl T.noN fun h₃ tk₃ dx k₃ dn dne hx₃ hn₃ => ?_)
  show wpAny _ _ (execs _ _) _ _ _
  have z : s.heap.objs.size < h₁.objs.size := hn.lt
  exact wpAny_execs_nil (hq h₃ tk₃ dx ⟨fun b o nb e => k₃ b o nb (k b o e), hx₃, Nat.le_of_lt (Nat.lt_of_lt_of_le z dn), dne, hn₃⟩)
theorem init_length {K : Frag} {mg : Str → Option Value} {cl qn : Str} {C fI : Addr} (T : ErrTxt K mg cl "length" qn C fI) : InitOk K "length" C fI := by
  intro prog w A R s args x t0 v hargs X hlim hx hnx hroom hq
  obtain ⟨oc, od, doc, pm, an, cdv, ct, osl, p1, p2, q1, q2, q3, q4, ho, hcd⟩ := T.fn
  obtain ⟨nm, q, N, bs, bm, sn, sub, ab, col, dd, k0, k1, k2, k3, k5, hC, hbm⟩ := T.cls
  have hcl : clsIn K C = some { name := nm, bases := bs, mro := .ref C :: bm, ns := N, qualname := q, hasDict := true, slotNames := sn, subclasses := sub, abstract := ab, collection := col, hasDel := false } := by unfold clsIn; rw [hC] <;> rfl
  have hb : BindsTo s (fnOf "__init__" qn (iA "length" p1 p2) (iB "length" q1 q2 q3 q4) (iS "length") .none .none doc pm an cdv ct) args [("self", .ref x), ("length", v)] := by
    rcases hargs with rfl | rfl
    · exact .of_eq (by first | rfl | with_unfolding_all rfl)
    · exact .of_eq (by first | rfl | with_unfolding_all rfl)
  refine Att.call_fn (binds := [("self", .ref x), ("length", v)]) X hlim ho hcd hroom hb (by first | rfl | decide | with_unfolding_all rfl) (fun s₁ IC => ?_) rfl rfl rfl
  obtain ⟨h₁, tk₁, rfl⟩ := IC.toInCall.same
  have k := IC.toInCall.keep
  have hn := IC.toInCall.ns
  have X₁ : K.In h₁ := X.keeps k
  have hx₁ := k _ _ hx
  show wpAny _ _ (execs _ _) _ _ _
  refine wpAny_execs_cons (plainObj_wpAny_Assign_Attribute (ldC (v := v) hn (by first | rfl | with_unfolding_all rfl | kernel_rfl) (ldC (v := .ref x) hn (by first | rfl | with_unfolding_all rfl | kernel_rfl) ?_)))
  refine set_plain X₁ (ox := excO C t0) (od := none) ⟨hx₁, rfl, rfl, trivial⟩ T.sa (exc_osa X₁ hx₁ hcl (show refsVE (.ref C :: bm) = true from hbm) rfl T.noN fun h₃ tk₃ dx k₃ dn dne hx₃ hn₃ => ?_)
  show wpAny _ _ (execs _ _) _ _ _
  have z : s.heap.objs.size < h₁.objs.size := hn.lt
  exact wpAny_execs_nil (hq h₃ tk₃ dx ⟨fun b o nb e => k₃ b o nb (k b o e), hx₃, Nat.le_of_lt (Nat.lt_of_lt_of_le z dn), dne, hn₃⟩)
theorem init_count {K : Frag} {mg : Str → Option Value} {cl qn : Str} {C fI : Addr} (T : ErrTxt K mg cl "count" qn C fI) : InitOk K "count" C fI := by
  intro prog w A R s args x t0 v hargs X hlim hx hnx hroom hq
  obtain ⟨oc, od, doc, pm, an, cdv, ct, osl, p1, p2, q1, q2, q3, q4, ho, hcd⟩ := T.fn
  obtain ⟨nm, q, N, bs, bm, sn, sub, ab, col, dd, k0, k1, k2, k3, k5, hC, hbm⟩ := T.cls
  have hcl : clsIn K C = some { name := nm, bases := bs, mro := .ref C :: bm, ns := N, qualname := q, hasDict := true, slotNames := sn, subclasses := sub, abstract := ab, collection := col, hasDel := false } := by unfold clsIn; rw [hC] <;> rfl
  have hb : BindsTo s (fnOf "__init__" qn (iA "count" p1 p2) (iB "count" q1 q2 q3 q4) (iS "count") .none .none doc pm an cdv ct) args [("self", .ref x), ("count", v)] := by
    rcases hargs with rfl | rfl
    · exact .of_eq (by first | rfl | with_unfolding_all rfl)
    · exact .of_eq (by first | rfl | with_unfolding_all rfl)
  refine Att.call_fn (binds := [("self", .ref x), ("count", v)]) X hlim ho hcd hroom hb (by first | rfl | decide | with_unfolding_all rfl) (fun s₁ IC => ?_) rfl rfl rfl
  obtain ⟨h₁, tk₁, rfl⟩ := IC.toInCall.same
  have k := IC.toInCall.keep
  have hn := IC.toInCall.ns
  have X₁ : K.In h₁ := X.keeps k
  have hx₁ := k _ _ hx
  show wpAny _ _ (execs _ _) _ _ _
  refine wpAny_execs_cons (plainObj_wpAny_Assign_Attribute (ldC (v := v) hn (by first | rfl | with_unfolding_all rfl | kernel_rfl) (ldC (v := .ref x) hn (by first | rfl | with_unfolding_all rfl | kernel_rfl) ?_)))
  refine set_plain X₁ (ox := excO C t0) (od := none) ⟨hx₁, rfl, rfl, trivial⟩ T.sa (exc_osa X₁ hx₁ hcl (show refsVE (.ref C :: bm) = true from hbm) rfl T.noN fun h₃ tk₃ dx k₃ dn dne hx₃ hn₃ => ?_)
  show wpAny _ _ (execs _ _) _ _ _
  have z : s.heap.objs.size < h₁.objs.size := hn.lt
  exact wpAny_execs_nil (hq h₃ tk₃ dx ⟨fun b o nb e => k₃ b o nb (k b o e), hx₃, Nat.le_of_lt (Nat.lt_of_lt_of_le z dn), dne, hn₃⟩)
theorem init_path {K : Frag} {mg : Str → Option Value} {cl qn : Str} {C fI : Addr} (T : ErrTxt K mg cl "path" qn C fI) : InitOk K "path" C fI := by
  intro prog w A R s args x t0 v hargs X hlim hx hnx hroom hq
  obtain ⟨oc, od, doc, pm, an, cdv, ct, osl, p1, p2, q1, q2, q3, q4, ho, hcd⟩ := T.fn
  obtain ⟨nm, q, N, bs, bm, sn, sub, ab, col, dd, k0, k1, k2, k3, k5, hC, hbm⟩ := T.cls
  have hcl : clsIn K C = some { name := nm, bases := bs, mro := .ref C :: bm, ns := N, qualname := q, hasDict := true, slotNames := sn, subclasses := sub, abstract := ab, collection := col, hasDel := false } := by unfold clsIn; rw [hC] <;> rfl
  have hb : BindsTo s (fnOf "__init__" qn (iA "path" p1 p2) (iB "path" q1 q2 q3 q4) (iS "path") .none .none doc pm an cdv ct) args [("self", .ref x), ("path", v)] := by
    rcases hargs with rfl | rfl
    · exact .of_eq (by first | rfl | with_unfolding_all rfl)
    · exact .of_eq (by first | rfl | with_unfolding_all rfl)
  refine Att.call_fn (binds := [("self", .ref x), ("path", v)]) X hlim ho hcd hroom hb (by first | rfl | decide | with_unfolding_all rfl) (fun s₁ IC => ?_) rfl rfl rfl
  obtain ⟨h₁, tk₁, rfl⟩ := IC.toInCall.same
  have k := IC.toInCall.keep
  have hn := IC.toInCall.ns
  have X₁ : K.In h₁ := X.keeps k
  have hx₁ := k _ _ hx
  show wpAny _ _ (execs _ _) _ _ _
  refine wpAny_execs_cons (plainObj_wpAny_Assign_Attribute (ldC (v := v) hn (by first | rfl | with_unfolding_all rfl | kernel_rfl) (ldC (v := .ref x) hn (by first | rfl | with_unfolding_all rfl | kernel_rfl) ?_)))
  refine set_plain X₁ (ox := excO C t0) (od := none) ⟨hx₁, rfl, rfl, trivial⟩ T.sa (exc_osa X₁ hx₁ hcl (show refsVE (.ref C :: bm) = true from hbm) rfl T.noN fun h₃ tk₃ dx k₃ dn dne hx₃ hn₃ => ?_)
  show wpAny _ _ (execs _ _) _ _ _
  have z : s.heap.objs.size < h₁.objs.size := hn.lt
  exact wpAny_execs_nil (hq h₃ tk₃ dx ⟨fun b o nb e => k₃ b o nb (k b o e), hx₃, Nat.le_of_lt (Nat.lt_of_lt_of_le z dn), dne, hn₃⟩)
theorem init_bound {K : Frag} {mg : Str → Option Value} {cl qn : Str} {C fI : Addr} (T : ErrTxt K mg cl "bound" qn C fI) : InitOk K "bound" C fI := by
  intro prog w A R s args x t0 v hargs X hlim hx hnx hroom hq
  obtain ⟨oc, od, doc, pm, an, cdv, ct, osl, p1, p2, q1, q2, q3, q4, ho, hcd⟩ := T.fn
  obtain ⟨nm, q, N, bs, bm, sn, sub, ab, col, dd, k0, k1, k2, k3, k5, hC, hbm⟩ := T.cls
  have hcl : clsIn K C = some { name := nm, bases := bs, mro := .ref C :: bm, ns := N, qualname := q, hasDict := true, slotNames := sn, subclasses := sub, abstract := ab, collection := col, hasDel := false } := by unfold clsIn; rw [hC] <;> rfl
  have hb : BindsTo s (fnOf "__init__" qn (iA "bound" p1 p2) (iB "bound" q1 q2 q3 q4) (iS "bound") .none .none doc pm an cdv ct) args [("self", .ref x), ("bound", v)] := by
    rcases hargs with rfl | rfl
    · exact .of_eq (by first | rfl | with_unfolding_all rfl)
    · exact .of_eq (by first | rfl | with_unfolding_all rfl)
  refine Att.call_fn (binds := [("self", .ref x), ("bound", v)]) X hlim ho hcd hroom hb (by first | rfl | decide | with_unfolding_all rfl) (fun s₁ IC => ?_) rfl rfl rfl
  obtain ⟨h₁, tk₁, rfl⟩ := IC.toInCall.same
  have k := IC.toInCall.keep
  have hn := IC.toInCall.ns
  have X₁ : K.In h₁ := X.keeps k
  have hx₁ := k _ _ hx
  show wpAny _ _ (execs _ _) _ _ _
  refine wpAny_execs_cons (plainObj_wpAny_Assign_Attribute (ldC (v := v) hn (by first | rfl | with_unfolding_all rfl | kernel_rfl) (ldC (v := .ref x) hn (by first | rfl | with_unfolding_all rfl | kernel_rfl) ?_)))
  refine set_plain X₁ (ox := excO C t0) (od := none) ⟨hx₁, rfl, rfl, trivial⟩ T.sa (exc_osa X₁ hx₁ hcl (show refsVE (.ref C :: bm) = true from hbm) rfl T.noN fun h₃ tk₃ dx k₃ dn dne hx₃ hn₃ => ?_)
  show wpAny _ _ (execs _ _) _ _ _
  have z : s.heap.objs.size < h₁.objs.size := hn.lt
  exact wpAny_execs_nil (hq h₃ tk₃ dx ⟨fun b o nb e => k₃ b o nb (k b o e), hx₃, Nat.le_of_lt (Nat.lt_of_lt_of_le z dn), dne, hn₃⟩)
theorem init_number {K : Frag} {mg : Str → Option Value} {cl qn : Str} {C fI : Addr} (T : ErrTxt K mg cl "number" qn C fI) : InitOk K "number" C fI := by
  intro prog w A R s args x t0 v hargs X hlim hx hnx hroom hq
  obtain ⟨oc, od, doc, pm, an, cdv, ct, osl, p1, p2, q1, q2, q3, q4, ho, hcd⟩ := T.fn
  obtain ⟨nm, q, N, bs, bm, sn, sub, ab, col, dd, k0, k1, k2, k3, k5, hC, hbm⟩ := T.cls
  have hcl : clsIn K C = some { name := nm, bases := bs, mro := .ref C :: bm, ns := N, qualname := q, hasDict := true, slotNames := sn, subclasses := sub, abstract := ab, collection := col, hasDel := false } := by unfold clsIn; rw [hC] <;> rfl
  have hb : BindsTo s (fnOf "__init__" qn (iA "number" p1 p2) (iB "number" q1 q2 q3 q4) (iS "number") .none .none doc pm an cdv ct) args [("self", .ref x), ("number", v)] := by
    rcases hargs with rfl | rfl
    · exact .of_eq (by first | rfl | with_unfolding_all rfl)
    · exact .of_eq (by first | rfl | with_unfolding_all rfl)
  refine Att.call_fn (binds := [("self", .ref x), ("number", v)]) X hlim ho hcd hroom hb (by first | rfl | decide | with_unfolding_all rfl) (fun s₁ IC => ?_) rfl rfl rfl
  obtain ⟨h₁, tk₁, rfl⟩ := IC.toInCall.same
  have k := IC.toInCall.keep
  have hn := IC.toInCall.ns
  have X₁ : K.In h₁ := X.keeps k
  have hx₁ := k _ _ hx
  show wpAny _ _ (execs _ _) _ _ _
  refine wpAny_execs_cons (plainObj_wpAny_Assign_Attribute (ldC (v := v) hn (by first | rfl | with_unfolding_all rfl | kernel_rfl) (ldC (v := .ref x) hn (by first | rfl | with_unfolding_all rfl | kernel_rfl) ?_)))
  refine set_plain X₁ (ox := excO C t0) (od := none) ⟨hx₁, rfl, rfl, trivial⟩ T.sa (exc_osa X₁ hx₁ hcl (show refsVE (.ref C :: bm) = true from hbm) rfl T.noN fun h₃ tk₃ dx k₃ dn dne hx₃ hn₃ => ?_)
  show wpAny _ _ (execs _ _) _ _ _
  have z : s.heap.objs.size < h₁.objs.size := hn.lt
  exact wpAny_execs_nil (hq h₃ tk₃ dx ⟨fun b o nb e => k₃ b o nb (k b o e), hx₃, Nat.le_of_lt (Nat.lt_of_lt_of_le z dn), dne, hn₃⟩)
theorem init_command {K : Frag} {mg : Str → Option Value} {cl qn : Str} {C fI : Addr} (T : ErrTxt K mg cl "command" qn C fI) : InitOk K "command" C fI := by
  intro prog w A R s args x t0 v hargs X hlim hx hnx hroom hq
  obtain ⟨oc, od, doc, pm, an, cdv, ct, osl, p1, p2, q1, q2, q3, q4, ho, hcd⟩ := T.fn
  obtain ⟨nm, q, N, bs, bm, sn, sub, ab, col, dd, k0, k1, k2, k3, k5, hC, hbm⟩ := T.cls
  have hcl : clsIn K C = some { name := nm, bases := bs, mro := .ref C :: bm, ns := N, qualname := q, hasDict := true, slotNames := sn, subclasses := sub, abstract := ab, collection := col, hasDel := false } := by unfold clsIn; rw [hC] <;> rfl
  have hb : BindsTo s (fnOf "__init__" qn (iA "command" p1 p2) (iB "command" q1 q2 q3 q4) (iS "command") .none .none doc pm an cdv ct) args [("self", .ref x), ("command", v)] := by
    rcases hargs with rfl | rfl
    · exact .of_eq (by first | rfl | with_unfolding_all rfl)
    · exact .of_eq (by first | rfl | with_unfolding_all rfl)
  refine Att.call_fn (binds := [("self", .ref x), ("command", v)]) X hlim ho hcd hroom hb (by first | rfl | decide | with_unfolding_all rfl) (fun s₁ IC => ?_) rfl rfl rfl
  obtain ⟨h₁, tk₁, rfl⟩ := IC.toInCall.same
  have k := IC.toInCall.keep
  have hn := IC.toInCall.ns
  have X₁ : K.In h₁ := X.keeps k
  have hx₁ := k _ _ hx
  show wpAny _ _ (execs _ _) _ _ _
  refine wpAny_execs_cons (plainObj_wpAny_Assign_Attribute (ldC (v := v) hn (by first | rfl | with_unfolding_all rfl | kernel_rfl) (ldC (v := .ref x) hn (by first | rfl | with_unfolding_all rfl | kernel_rfl) ?_)))
  refine set_plain X₁ (ox := excO C t0) (od := none) ⟨hx₁, rfl, rfl, trivial⟩ T.sa (exc_osa X₁ hx₁ hcl (show refsVE (.ref C :: bm) = true from hbm) rfl T.noN fun h₃ tk₃ dx k₃ dn dne hx₃ hn₃ => ?_)
  show wpAny _ _ (execs _ _) _ _ _
  have z : s.heap.objs.size < h₁.objs.size := hn.lt
  exact wpAny_execs_nil (hq h₃ tk₃ dx ⟨fun b o nb e => k₃ b o nb (k b o e), hx₃, Nat.le_of_lt (Nat.lt_of_lt_of_le z dn), dne, hn₃⟩)
end SkE
end PySem

/-! The errors of scripts: how they are made. -/
namespace PySem
namespace SkE
open PySem.W PySem.Calls PyProof.Rows PySem.HandSPX
theorem init_wrong {K : Frag} {mg : Str → Option Value} {cl qn : Str} {C fI : Addr} (T : ErrTxt K mg cl "wrong" qn C fI) : InitOk K "wrong" C fI := by
  intro prog w A R s args x t0 v hargs X hlim hx hnx hroom hq
  obtain ⟨oc, od, doc, pm, an, cdv, ct, osl, p1, p2, q1, q2, q3, q4, ho, hcd⟩ := T.fn
  obtain ⟨nm, q, N, bs, bm, sn, sub, ab, col, dd, k0, k1, k2, k3, k5, hC, hbm⟩ := T.cls
  have hcl : clsIn K C = some { name := nm, bases := bs, mro := .ref C :: bm, ns := N, qualname := q, hasDict := true, slotNames := sn, subclasses := sub, abstract := ab, collection := col, hasDel := false } := by unfold clsIn; rw [hC] <;> rfl
  have hb : BindsTo s (fnOf "__init__" qn (iA "wrong" p1 p2) (iB "wrong" q1 q2 q3 q4) (iS "wrong") .none .none doc pm an cdv ct) args [("self", .ref x), ("wrong", v)] := by
    rcases hargs with rfl | rfl
    · exact .of_eq (by first | rfl | with_unfolding_all rfl)
    · exact .of_eq (by first | rfl | with_unfolding_all rfl)
  refine Att.call_fn (binds := [("self", .ref x), ("wrong", v)]) X hlim ho hcd hroom hb (by first | rfl | decide | with_unfolding_all rfl) (fun s₁ IC => ?_) rfl rfl rfl
  obtain ⟨h₁, tk₁, rfl⟩ := IC.toInCall.same
  have k := IC.toInCall.keep
  have hn := IC.toInCall.ns
  have X₁ : K.In h₁ := X.keeps k
  have hx₁ := k _ _ hx
  show wpAny _ _ (execs _ _) _ _ _
  refine wpAny_execs_cons (plainObj_wpAny_Assign_Attribute (ldC (v := v) hn (by first | rfl | with_unfolding_all rfl | kernel_rfl) (ldC (v := .ref x) hn (by first | rfl | with_unfolding_all rfl | kernel_rfl) ?_)))
  refine set_plain X₁ (ox := excO C t0) (od := none) ⟨hx₁, rfl, rfl, trivial⟩ T.sa (exc_osa X₁ hx₁ hcl (show refsVE (.ref C :: bm) = true from hbm) rfl T.noN fun h₃ tk₃ dx k₃ dn dne hx₃ hn₃ => ?_)
  show wpAny _ _ (execs _ _) _ _ _
  have z : s.heap.objs.size < h₁.objs.size := hn.lt
  exact wpAny_execs_nil (hq h₃ tk₃ dx ⟨fun b o nb e => k₃ b o nb (k b o e), hx₃, Nat.le_of_lt (Nat.lt_of_lt_of_le z dn), dne, hn₃⟩)
theorem init_steps {K : Frag} {mg : Str → Option Value} {cl qn : Str} {C fI : Addr} (T : ErrTxt K mg cl "steps" qn C fI) : InitOk K "steps" C fI := by
  intro prog w A R s args x t0 v hargs X hlim hx hnx hroom hq
  obtain ⟨oc, od, doc, pm, an, cdv, ct, osl, p1, p2, q1, q2, q3, q4, ho, hcd⟩ := T.fn
  obtain ⟨nm, q, N, bs, bm, sn, sub, ab, col, dd, k0, k1, k2, k3, k5, hC, hbm⟩ := T.cls
  have hcl : clsIn K C = some { name := nm, bases := bs, mro := .ref C :: bm, ns := N, qualname := q, hasDict := true, slotNames := sn, subclasses := sub, abstract := ab, collection := col, hasDel := false } := by unfold clsIn; rw [hC] <;> rfl
  have hb : BindsTo s (fnOf "__init__" qn (iA "steps" p1 p2) (iB "steps" q1 q2 q3 q4) (iS "steps") .none .none doc pm an cdv ct) args [("self", .ref x), ("steps", v)] := by
    rcases hargs with rfl | rfl
    · exact .of_eq (by first | rfl | with_unfolding_all rfl)
    · exact .of_eq (by first | rfl | with_unfolding_all rfl)
  refine Att.call_fn (binds := [("self", .ref x), ("steps", v)]) X hlim ho hcd hroom hb (by first | rfl | decide | with_unfolding_all rfl) (fun s₁ IC => ?_) rfl rfl rfl
  obtain ⟨h₁, tk₁, rfl⟩ := IC.toInCall.same
  have k := IC.toInCall.keep
  have hn := IC.toInCall.ns
  have X₁ : K.In h₁ := X.keeps k
  have hx₁ := k _ _ hx
  show wpAny _ _ (execs _ _) _ _ _
  refine wpAny_execs_cons (plainObj_wpAny_Assign_Attribute (ldC (v := v) hn (by first | rfl | with_unfolding_all rfl | kernel_rfl) (ldC (v := .ref x) hn (by first | rfl | with_unfolding_all rfl | kernel_rfl) ?_)))
  refine set_plain X₁ (ox := excO C t0) (od := none) ⟨hx₁, rfl, rfl, trivial⟩ T.sa (exc_osa X₁ hx₁ hcl (show refsVE (.ref C :: bm) = true from hbm) rfl T.noN fun h₃ tk₃ dx k₃ dn dne hx₃ hn₃ => ?_)
  show wpAny _ _ (execs _ _) _ _ _
  have z : s.heap.objs.size < h₁.objs.size := hn.lt
  exact wpAny_execs_nil (hq h₃ tk₃ dx ⟨fun b o nb e => k₃ b o nb (k b o e), hx₃, Nat.le_of_lt (Nat.lt_of_lt_of_le z dn), dne, hn₃⟩)
end SkE
end PySem

namespace PySem
namespace SkE
open PySem.W PySem.Calls PyProof.Rows PySem.HandSPX
section
variable {prog : Program} {w : World} {A : Around} {E : Value → Shared → Prop} {R : Result → Shared → Prop} {h : Heap} {g : Array GenState} {d : Drawn} {t : Nat} {os : OsState}
variable {nm q : Str} {C N : Addr} {bs bm bmB : List Value} {hdct : Bool} {sn : List Str} {sub : List Value} {ab : Bool} {col : Option Bool} {dd : Option Addr} {k0 k1 k2 k3 k5 : Option Value} {B newId initId : String} {kw : List (Str × Value)}
theorem checkK (F : ExcBaseFacts B newId initId bmB) (hT : ∀ X : String, bm.contains (.type X) = bmB.contains (.type X)) {Q : Unit → Shared → Prop}
    (hC : h.get? C = some (excClassObj nm q C N bs bm hdct sn sub ab col dd k0 k1 k2 k3 k5 newId)) (hq : Q () ⟨h, g, d, t, os⟩) : wpAny (model prog w) A (checkBuiltinCall newId ⟨[.ref C], kw⟩) Q E ⟨h, g, d, t, os⟩ := by
  have hcont : (Value.ref C :: bm).contains (.type B) = true := by
    rw [List.contains_cons, hT, F.hasB, Bool.or_true]
  have z := F.noStar
  simp only [checkBuiltinCall, F.newKind, F.newSplit, F.newRow]
  repeat (first
    | refine wpAny_loadPart_at hC ?_
    | (refine wpAny_isSubtype_exc hC ?_
       rw [hcont])
    | refine wpAny_staticBase_exc hC ?_
    | refine wpAny_madeBy_exc hC ?_
    | simp only [bne_self_eq_false, Bool.false_eq_true, if_false]
    | wp_step)
  exact hq
theorem newK (F : ExcBaseFacts B newId initId bmB) (hT : ∀ X : String, bm.contains (.type X) = bmB.contains (.type X))
    (hC : h.get? C = some (excClassObj nm q C N bs bm hdct sn sub ab col dd k0 k1 k2 k3 k5 newId))
    (hq : R (.ok (.ret (.ref (h.objs.size + 1)))) ⟨(h.push (kdv_tup [])).push (excO C h.objs.size), g, d, t, os⟩) :
    codeAny (model prog w) A (.builtin newId ⟨[.ref C], kw⟩) R ⟨h, g, d, t, os⟩ := by
  have ends := F.ends
  have inn : ∀ X : String, (Value.ref C :: bm).contains (.type X) = bmB.contains (.type X) := fun X => by
    rw [List.contains_cons, hT]; rfl
  have hcB := (inn B).trans F.hasB
  have hcA := (inn "AttributeError").trans F.noAttr
  have hcN := (inn "NameError").trans F.noName
  refine codeAny_builtinAt F.entry ?_
  unfold Builtin.«BaseException.__new__»
  refine wpAt_bind ?_
  show wpAt _ _ _ (stack >>= _) _ _ _
  refine wpAt_bind (wpAt_stack fun p below => wpAt_of_wpAny ?_)
  wp_walk
  refine wpAt_of_wpAny ?_
  rw [F.owner]
  repeat (first
    | with_reducible refine wpAny_madeHere_exc F.canon hC ?_
    | with_reducible refine wpAny_loadPart_at hC ?_
    | (with_reducible refine wpAny_isSubtype_exc hC ?_
       first | rw [hcB] | rw [hcA] | rw [hcN])
    | wp_step)
  show R _ _
  rw [Heap.size_push]
  exact hq
theorem typeK (F : ExcBaseFacts B newId initId bmB) (hT : ∀ X : String, bm.contains (.type X) = bmB.contains (.type X)) {fI : Addr} {Q : Fin → Shared → Prop}
    (hC : h.get? C = some (excClassObj nm q C N bs bm hdct sn sub ab col dd k0 k1 k2 k3 k5 newId)) (hi : Looks (model prog w) h (typeLookup (.ref C) "__init__") (some (.ref fI)))
    (hb : ∀ self, Looks (model prog w) h (bindSpecial (.ref fI) self) (.ref fI, [self]))
    (hq : codeAny (model prog w) A (.call (.ref fI) ⟨[.ref (h.objs.size + 1)], kw⟩) (fun r s' => match r with | .ok (.ret v) => v = .none ∧ Q (.done (.ret (.ref (h.objs.size + 1)))) s' | .ok _ => False | .error e => E e s')
      ⟨(h.push (kdv_tup [])).push (excO C h.objs.size), g, d, t, os⟩) : wpAny (model prog w) A (Builtin.«type.__call__» ⟨[.ref C], kw⟩) Q E ⟨h, g, d, t, os⟩ := by
  repeat (first
    | with_reducible refine wpAny_loadPart_at hC ?_
    | with_reducible refine wpAny_madeBy_exc hC ?_
    | wp_step)
  refine codeAny_call_builtin_code (Code.quiet_builtin _ F.quiet) (checkK F hT hC ?_)
  refine newK F hT hC ?_
  show wpAny _ _ _ _ _ _
  have k : ∀ b o, h.get? b = some o → ((h.push (kdv_tup [])).push (excO C h.objs.size)).get? b = some o := fun b o e => Heap.get?_push_of_some _ (Heap.get?_push_of_some _ e)
  have hC1 := k _ _ hC
  have hget : ((h.push (kdv_tup [])).push (excO C h.objs.size)).get? (h.objs.size + 1) = some (excO C h.objs.size) := by
    heap_get
  have me : (Value.ref C :: bm).contains (.ref C) = true := by
    simp
  have i1 := hi.keeps k
  have b1 := (hb (.ref (h.objs.size + 1))).keeps k
  unfold isInstance
  repeat (first
    | with_reducible refine wpAny_loadPart_at hget ?_
    | (with_reducible refine wpAny_isSubtype_exc hC1 ?_
       rw [me])
    | wp_step)
  show wpAny _ _ (typeLookup (.ref C) _) _ _ _
  refine i1.at (wpAny_holding (wpAny_bind (b1.at (wpAny_bind (wpAny_call (codeAny_mono hq fun r s' z => ?_))))))
  rcases r with e | fl
  · exact z
  · cases fl with
    | ret v =>
      obtain ⟨rfl, z⟩ := z
      first
        | exact wpAny_pure (wpAny_pure z)
        | (wp_walk
           exact z)
    | next => exact z.elim
    | brk => exact z.elim
    | cont => exact z.elim
theorem callK (F : ExcBaseFacts B newId initId bmB) (hT : ∀ X : String, bm.contains (.type X) = bmB.contains (.type X)) {fI : Addr}
    (hC : h.get? C = some (excClassObj nm q C N bs bm hdct sn sub ab col dd k0 k1 k2 k3 k5 newId)) (hi : Looks (model prog w) h (typeLookup (.ref C) "__init__") (some (.ref fI)))
    (hb : ∀ self, Looks (model prog w) h (bindSpecial (.ref fI) self) (.ref fI, [self]))
    (hq : codeAny (model prog w) (A.under (.builtin "type.__call__" ⟨[.ref C], kw⟩)) (.call (.ref fI) ⟨[.ref (h.objs.size + 1)], kw⟩) (InitBack (h.objs.size + 1) R) ⟨(h.push (kdv_tup [])).push (excO C h.objs.size), g, d, t, os⟩) :
    codeAny (model prog w) A (.call (.ref C) ⟨[], kw⟩) R ⟨h, g, d, t, os⟩ := by
  have f1 := tc_lookup
  have f2 := tc_bind (.ref C)
  have ty : (⟨h, g, d, t, os⟩ : Shared).TypeIs (.ref C) "type" := ⟨_, hC, rfl⟩
  refine codeAny_of_tree ?_
  show wpAny _ _ (callAny (.ref C) _) _ _ _
  repeat (any_goals (first
    | assumption
    | with_reducible refine wpAny_loadPart_at hC ?_
    | wp_step))
  refine ⟨rfl, codeAny_call_builtin_at (Code.quiet_builtin _ (by decide +kernel)) entry_typeCall ?_⟩
  refine wpAny_check_type_call_sub hC (typeK F hT hC hi hb ?_)
  refine codeAny_mono hq fun r s' z => ?_
  rcases r with e | (v | _ | _ | _)
  all_goals exact z
end
end SkE
end PySem

namespace PySem
namespace SkE
open PySem.W PySem.Calls PyProof.Rows PySem.HandSPX
section
variable {prog : Program} {w : World} {A : Around} {E : Value → Shared → Prop} {R : Result → Shared → Prop} {s : Shared} {K : Frag} {mg : Str → Option Value} {cl at_ qn : Str} {C fI : Addr}
theorem under_kw {A : Around} {C : Addr} {us : List Value} {kw : List (Str × Value)} : (A.under (.builtin "type.__call__" ⟨.ref C :: us, kw⟩)).depth = A.depth + 1 := L2.make_depth
/-- behind __init__: the error is made -/
theorem made_end {hp : Heap} {g : Array GenState} {dr : Drawn} {os : OsState} {rest : List Value} {h' : Heap} {tk : Nat} {dx : Addr} {v : Value} (M : InitEnd at_ ((hp.push (kdv_tup rest)).push (excO C hp.objs.size)) h' (hp.objs.size + 1) C dx hp.objs.size v) :
    OwnMade at_ hp h' (hp.objs.size + 1) C dx v := by
  have k : ∀ b o, hp.get? b = some o → ((hp.push (kdv_tup rest)).push (excO C hp.objs.size)).get? b = some o := fun b o e => Heap.get?_push_of_some _ (Heap.get?_push_of_some _ e)
  have z : hp.objs.size + 1 + 1 ≤ dx := by
    have q := M.dbig
    rw [Heap.size_push, Heap.size_push] at q
    exact q
  exact ⟨fun b o e => M.keep b o (Nat.ne_of_lt (Nat.lt_succ_of_lt (Heap.lt_size e))) (k b o e), Nat.le_succ _, ⟨_, _, M.obj, rfl, rfl, rfl, rfl⟩, by omega, M.dne, M.ns⟩
theorem err_made (T : ErrTxt K mg cl at_ qn C fI) (IO : InitOk K at_ C fI) {v : Value} {args : Args} (ha : args = ⟨[v], []⟩ ∨ args = ⟨[], [(at_, v)]⟩) (X : K.In s.heap) (hlim : s.heap.NoLimit) (hroom : A.depth + 1 < recursionLimit)
    (hq : ∀ h' tk e d, OwnMade at_ s.heap h' e C d v → R (.ok (.ret (.ref e))) { s with heap := h', toks := tk }) : codeAny (model prog w) A (.call (.ref C) args) R s := by
  obtain ⟨nm, q, N, bs, bm, sn, sub, ab, col, dd, k0, k1, k2, k3, k5, hC, hbm⟩ := T.cls
  obtain ⟨hp, g, dr, tk, os⟩ := s
  have start : ∀ rest : List Value, K.In ((hp.push (kdv_tup rest)).push (excO C hp.objs.size)) ∧ ((hp.push (kdv_tup rest)).push (excO C hp.objs.size)).NoLimit ∧ ((hp.push (kdv_tup rest)).push (excO C hp.objs.size)).get? (hp.objs.size + 1) = some (excO C hp.objs.size) := fun rest => by
    have k : ∀ b o, hp.get? b = some o → ((hp.push (kdv_tup rest)).push (excO C hp.objs.size)).get? b = some o := fun b o e => Heap.get?_push_of_some _ (Heap.get?_push_of_some _ e)
    exact ⟨X.keeps k, hlim.keeps k, by heap_get⟩
  have no : K.lookup (hp.objs.size + 1) = none := by
    cases e : K.lookup (hp.objs.size + 1) with
    | none => rfl
    | some o => exact absurd (Nat.lt_of_succ_lt (Heap.lt_size (show hp.get? _ = some o from X _ _ e))) (Nat.lt_irrefl _)
  rcases ha with rfl | rfl
  · obtain ⟨s1, s2, s3⟩ := start [v]
    refine call_own F.excBase_ValueError (fun Y => refsVE_contains Y bm hbm) (X _ _ hC) (looks_findIn X T.iC) (fun self => bind_fn X self T.tC) (by rw [List.length_singleton]; exact Nat.le_trans (by decide) (Nat.le_of_eq sizeLine_eq.symm)) ?_
    refine IO prog w _ _ ⟨_, g, dr, tk, os⟩ _ _ _ v (.inl rfl) s1 s2 s3 no ?_ fun h' tk' dx M => ⟨rfl, hq h' tk' _ dx (made_end (g := g) (dr := dr) (os := os) (tk := tk') M)⟩
    rw [under_kw]; exact hroom
  · obtain ⟨s1, s2, s3⟩ := start []
    refine callK F.excBase_ValueError (fun Y => refsVE_contains Y bm hbm) (X _ _ hC) (looks_findIn X T.iC) (fun self => bind_fn X self T.tC) ?_
    refine IO prog w _ _ ⟨_, g, dr, tk, os⟩ _ _ _ v (.inr rfl) s1 s2 s3 no ?_ fun h' tk' dx M => ⟨rfl, hq h' tk' _ dx (made_end (g := g) (dr := dr) (os := os) (tk := tk') M)⟩
    rw [under_kw]; exact hroom
end
end SkE
end PySem
namespace Sk
open PySem PySem.Spec PyProof.Rows L2 Evl PySem.SkE
/-- an error of the class at C, its own dict at d -/
def ErO (C d e : Addr) : HO := .ext fun h => ∃ (oe : Obj) (vs : Array Value), h.get? e = some oe ∧ oe.cls = .ref C ∧ oe.dict = some d ∧ oe.data = .fields vs ∧ vs[1]? = some .none
theorem relO_one {v : V} {v' : Value} {at_ : Str} (r : RelV v v') (f : Str) : RelO (List.lookup f [(at_, v)]) (if f = at_ then some v' else none) := by
  by_cases hw : f = at_
  · subst hw
    rw [if_pos rfl]
    simp only [List.lookup, beq_self_eq_true]
    exact r
  · have q : (f == at_) = false := by simpa using hw
    rw [if_neg hw]
    simp only [List.lookup, q]
    trivial
section
variable {X : Cx} {pins : List (Addr × Obj)} {σ : L2.St} {H : Hp} {s : Shared} {cl at_ qn : Str} {C fI : Addr}
/-- the heap behind a made error -/
theorem made_inv (I : Inv X pins σ H s) {h' : Heap} {tk : Nat} {e d : Addr} {v : V} {v' : Value} (rv : RelV v v') (M : OwnMade at_ s.heap h' e C d v') :
    H e = none ∧ H d = none ∧ d ≠ e ∧ Inv X pins σ (upd (upd H d (.xd [(at_, v)])) e (ErO C d e)) { s with heap := h', toks := tk } := by
  have he := I.hok.fresh M.new
  have hd := I.hok.fresh M.dbig
  have he2 : (upd H d (.xd [(at_, v)])) e = none := by
    rw [upd_ne (Ne.symm M.dne)]; exact he
  refine ⟨he, hd, M.dne, I.un ((Un.laid (h := s.heap) (h' := s.heap) (fun _ _ z => z) M.dbig hd).trans (Un.laid M.keep M.new he2)) ?_⟩
  have h1 : HOk X.prog X.w (upd H d (.xd [(at_, v)])) h' := I.hok.laidN M.keep hd ⟨_, M.ns, fun f => relO_one rv f⟩
  obtain ⟨oe, vs, g, r⟩ := M.obj
  exact h1.laidN (fun _ _ z => z) he2 ⟨⟨oe, vs, g, r⟩, ⟨oe, g⟩, fun _ _ ⟨o, vs, q, r⟩ k => ⟨o, vs, k o q, r⟩⟩
def tErr (C : Addr) (at_ : Str) (ta : TA) : TE := fun σ H Q => ta σ H fun vs H1 => ∃ v, vs = [v] ∧ ∀ e d, H1 e = none → H1 d = none → d ≠ e → Q (.ref e) (upd (upd H1 d (.xd [(at_, v)])) e (ErO C d e))
theorem pe_err {a : Expr} {ta : TA} {p pos : Pos} {k : Nat} (T : ErrTxt X.K X.mg cl at_ qn C fI) (IO : InitOk X.K at_ C fI) (hr : Room k X.A) (ha : PA X [a] ta) (hg : Gl X cl := by rfl) (hdb : (cl == ("__debug__" : Str)) = false := by decide)
    (he : starEach (a :: []) X.env = (false, eval a X.env) :: starEach [] X.env := by rfl) (hpl : (backTo pos (starEach [] X.env)).any (·.1) = false := by rfl) : PE X (.Call (.Name cl p) [a] [] pos) (tErr C at_ ta) := by
  refine ⟨fun pins s σ H Q I h => wpAny_Call_Name_kw (ld_glob I hg T.gC ?_ hdb)⟩
  refine PySem.W.callWith_K (h₀ := X.base) I.ok.mod.kin T.kC (thn (ha.run pos pins s σ H _ I h) fun us s1 ⟨vs, H1, I1, r1, v, ev, q⟩ => ?_) he hpl
  subst ev
  refine ⟨I1.kIn, ?_⟩
  obtain ⟨u, rfl, ru⟩ := vals1 r1
  refine wpAny_call (err_made T IO (.inl rfl) I1.kIn I1.nolimit (by have := hr.dp; omega) fun h' tk e d M => ?_)
  obtain ⟨g1, g2, g3, J⟩ := made_inv (tk := tk) I1 ru M
  exact ⟨.ref e, _, J, rfl, q e d g1 g2 g3⟩
theorem pe_errK {kws : List Keyword} {ta : TA} {p pos : Pos} {k : Nat} (T : ErrTxt X.K X.mg cl at_ qn C fI) (IO : InitOk X.K at_ C fI) (hr : Room k X.A) (ha : PK X kws ta) (hg : Gl X cl := by rfl) (hdb : (cl == ("__debug__" : Str)) = false := by decide)
    (hall : (backToKw pos (keywordEach kws X.env)).all (·.1.isSome) = true := by rfl) (hks : (backToKw pos (keywordEach kws X.env)).filterMap (·.1) = [at_] := by rfl)
    (hpl : ((backTo pos (starEach [] X.env)).any (·.1) || (backToKw pos (keywordEach kws X.env)).any (·.1.isNone)) = false := by rfl) : PE X (.Call (.Name cl p) [] kws pos) (tErr C at_ ta) := by
  refine ⟨fun pins s σ H Q I h => wpAny_Call_Name_kw (ld_glob I hg T.gC ?_ hdb)⟩
  refine PySem.W.callWith_KW0 (h₀ := X.base) I.ok.mod.kin T.kC hall (thn (ha.run pos pins s σ H _ I h) fun us s1 ⟨vs, H1, I1, r1, v, ev, q⟩ => ?_) hpl
  subst ev
  refine ⟨I1.kIn, ?_⟩
  rw [hks]
  obtain ⟨u, rfl, ru⟩ := vals1 r1
  refine wpAny_call (err_made T IO (.inr rfl) I1.kIn I1.nolimit (by have := hr.dp; omega) fun h' tk e d M => ?_)
  obtain ⟨g1, g2, g3, J⟩ := made_inv (tk := tk) I1 ru M
  exact ⟨.ref e, _, J, rfl, q e d g1 g2 g3⟩
/-- the error at e stands, with its field -/
def IsErr (H : Hp) (C : Addr) (at_ : Str) (e : Addr) (v : V) : Prop := ∃ d, H e = some (ErO C d e) ∧ H d = some (.xd [(at_, v)])
theorem IsErr.inst (I : Inv X pins σ H s) {e : Addr} {v : V} (h : IsErr H C at_ e v) : ∃ oe od, PySem.W.InstAt s.heap e oe C (some od) ∧ ∃ u, RelV v u ∧ PySem.W.lookIn at_ od = some (some u) := by
  obtain ⟨d, h1, h2⟩ := h
  obtain ⟨⟨oe, vs, g, c, dd, da, _⟩, _⟩ := (show ObjOk X.prog X.w H s.heap e (ErO C d e) from I.hok _ _ h1)
  obtain ⟨mA, hns, hr⟩ := (show ObjOk X.prog X.w H s.heap d (.xd [(at_, v)]) from I.hok _ _ h2)
  obtain ⟨od, ho, hl⟩ := lookIn_ns hns
  have l : List.lookup at_ [(at_, v)] = some v := by simp [List.lookup]
  obtain ⟨u, hu, ru⟩ := RelO.some_of (v := v) (o := mA at_) (by rw [← l]; exact hr at_)
  refine ⟨oe, od, ⟨g, c, by unfold PySem.W.notCls; rw [da] <;> rfl, by rw [dd]; exact ho⟩, u, ru, by rw [hl, hu]⟩
/-- e.attr -/
def tErrFld (C : Addr) (at_ : Str) (te : TE) : TE := fun σ H Q => te σ H fun x H1 => ∃ e v, x = .ref e ∧ IsErr H1 C at_ e v ∧ Q v H1
theorem pe_errFld {e : Expr} {te : TE} {pos : Pos} (T : ErrTxt X.K X.mg cl at_ qn C fI) (he : PE X e te) (hb : attributeBase e at_ X.env (eval e X.env) = eval e X.env := by rfl) : PE X (.Attribute e at_ pos) (tErrFld C at_ te) := by
  refine ⟨fun pins s σ H Q I h => attr_of hb (thn (he.run pins s σ H _ I h) fun u s1 hh => ?_)⟩
  obtain ⟨x, H1, I1, rx, e0, v, ex, hi, q⟩ := hh
  subst ex
  cases (show u = Value.ref e0 from rx)
  obtain ⟨oe, od, J, u, ru, hl⟩ := hi.inst I1
  exact HandSPX.exc_get I1.kIn J T.ga T.gg T.exC (PySem.W.findObj_own T.hdC T.noN rfl hl) (handed_of ru) ⟨v, H1, I1.tok _, ru, q⟩
/-- isinstance(e, class) -/
theorem call_isErr (T : ErrTxt X.K X.mg cl at_ qn C fI) : CallR X (.builtin "isinstance") (fun xs H Q => ∃ (e : Addr) (v c : V) (u : Value) (b : Bool), xs = [.ref e, c] ∧ ClsV c u ∧ IsErr H C at_ e v ∧ PySem.W.kitOne X.K (.ref C) u = some b ∧ Q (.bl b) H) := by
  intro pins s σ H xs us Q I r h
  obtain ⟨e, v, c, u, b, rfl, k, hi, hk, q⟩ := h
  obtain ⟨u1, u2, rfl, r1, r2⟩ := vals2 r
  cases (show u1 = Value.ref e from r1)
  have e2 := k.eq r2
  subst e2
  obtain ⟨oe, od, J, _⟩ := hi.inst I
  exact PySem.W.kia_one (PySem.W.kitx_exc T.cl_ T.ga T.gg T.exC T.hCl T.hGt T.hTk T.hOb) I.kIn J hk (fun z => nomatch z) fun tk => ⟨.bl b, H, I.tok tk, rfl, q⟩
end
end Sk

namespace Sk
open PySem PySem.Spec PyProof.Rows L2 Evl PySem.SkE
/-- an own error's class, which one left open -/
def ErrC (K : PySem.W.Frag) (at_ : Str) (C : Addr) : Prop := ∃ mg cl qn fI, ErrTxt K mg cl at_ qn C fI
section
variable {X : Cx}
/-- e.attr, of any own error that stores it -/
def tErrFldA (K : PySem.W.Frag) (at_ : Str) (te : TE) : TE := fun σ H Q => te σ H fun x H1 => ∃ e v C, x = .ref e ∧ ErrC K at_ C ∧ IsErr H1 C at_ e v ∧ Q v H1
theorem pe_errFldA {e : Expr} {te : TE} {at_ : Str} {pos : Pos} (he : PE X e te) (hb : attributeBase e at_ X.env (eval e X.env) = eval e X.env := by rfl) : PE X (.Attribute e at_ pos) (tErrFldA X.K at_ te) := by
  refine ⟨fun pins s σ H Q I h => attr_of hb (thn (he.run pins s σ H _ I h) fun u s1 hh => ?_)⟩
  obtain ⟨x, H1, I1, rx, e0, v, C, ex, ⟨mg, cl, qn, fI, T⟩, hi, q⟩ := hh
  subst ex
  cases (show u = Value.ref e0 from rx)
  obtain ⟨oe, od, J, u, ru, hl⟩ := hi.inst I1
  exact HandSPX.exc_get I1.kIn J T.ga T.gg T.exC (PySem.W.findObj_own T.hdC T.noN rfl hl) (handed_of ru) ⟨v, H1, I1.tok _, ru, q⟩
/-- isinstance(e, class) -/
def rIsErr (K : PySem.W.Frag) : List V → Hp → VK → Prop := fun xs H Q => ∃ (C e : Addr) (at_ : Str) (v c : V) (u : Value) (b : Bool), xs = [.ref e, c] ∧ ClsV c u ∧ ErrC K at_ C ∧ IsErr H C at_ e v ∧ PySem.W.kitOne K (.ref C) u = some b ∧ Q (.bl b) H
theorem call_isErrA : CallR X (.builtin "isinstance") (rIsErr X.K) := by
  intro pins s σ H xs us Q I r h
  obtain ⟨C, e, at_, v, c, u, b, rfl, k, ⟨mg, cl, qn, fI, T⟩, hi, hk, q⟩ := h
  obtain ⟨u1, u2, rfl, r1, r2⟩ := vals2 r
  cases (show u1 = Value.ref e from r1)
  have e2 := k.eq r2
  subst e2
  obtain ⟨oe, od, J, _⟩ := hi.inst I
  exact PySem.W.kia_one (PySem.W.kitx_exc T.cl_ T.ga T.gg T.exC T.hCl T.hGt T.hTk T.hOb) I.kIn J hk (fun z => nomatch z) fun tk => ⟨.bl b, H, I.tok tk, rfl, q⟩
end
end Sk

/-! An own error raised; caught, and kept by another name. -/
namespace Sk
open PySem PySem.Spec PyProof.Rows L2 Evl PySem.SkE
section
variable {X : Cx} {cl at_ qn : Str} {C fI : Addr}
def tMkE (C : Addr) (at_ : Str) (ta : TA) : L2.St → Hp → XK → Prop := fun σ H Q => ta σ H fun vs H1 => ∃ v, vs = [v] ∧ ∀ d, H1 d = none → Q (.ref C) (some d) (upd H1 d (.xd [(at_, v)]))
theorem pmk_err {a : Expr} {ta : TA} {p pos : Pos} {k : Nat} (T : ErrTxt X.K X.mg cl at_ qn C fI) (IO : InitOk X.K at_ C fI) (hr : Room k X.A) (ha : PA X [a] ta) (hg : Gl X cl := by rfl) (hdb : (cl == ("__debug__" : Str)) = false := by decide)
    (he : starEach (a :: []) X.env = (false, eval a X.env) :: starEach [] X.env := by rfl) (hpl : (backTo pos (starEach [] X.env)).any (·.1) = false := by rfl) :
    PMk X (.Call (.Name cl p) [a] [] pos) (tMkE C at_ ta) := by
  intro pins s σ H Q I h
  refine wpAny_Call_Name_kw (ld_glob I hg T.gC ?_ hdb)
  refine PySem.W.callWith_K (h₀ := X.base) I.ok.mod.kin T.kC (thn (ha.run pos pins s σ H _ I h) fun us s1 ⟨vs, H1, I1, r1, v, ev, q1⟩ => ?_) he hpl
  subst ev
  refine ⟨I1.kIn, ?_⟩
  obtain ⟨v', rfl, rv⟩ := vals1 r1
  have hlim := I1.nolimit
  obtain ⟨hp, g, dr, tk, os⟩ := s1
  refine wpAny_call (err_made T IO (.inl rfl) I1.kIn hlim (by have := hr.dp; omega) fun h' tk' e d M => ?_)
  show MkP X pins σ Q (.ref e) ⟨h', g, dr, tk', os⟩
  obtain ⟨oe, fv, hoe, hc, hd, hdat, h1⟩ := M.obj
  have hns := M.ns
  obtain ⟨G', g1, g2⟩ := restrict h' fun b => decide (b ≠ e)
  have gk : ∀ b, b ≠ e → G'.get? b = h'.get? b := fun b hb => g1 b (decide_eq_true hb)
  have ge : G'.get? e = none := g2 e (by simp)
  have old : ∀ b o, hp.get? b = some o → G'.get? b = some o := fun b o q => (gk b (Nat.ne_of_lt (Nat.lt_of_lt_of_le (Heap.lt_size q) M.new))).trans (M.keep b o q)
  have ob : ObjOk X.prog X.w (upd H1 d (.xd [(at_, v)])) G' d (.xd [(at_, v)]) :=
    ⟨_, hns.at (fun o q => (gk d M.dne).trans q), fun f => relO_one rv f⟩
  have J : Inv X pins σ (upd H1 d (.xd [(at_, v)])) ⟨G', g, dr, tk', os⟩ := I1.laid (t' := tk') old M.dbig ob
  refine ⟨e, oe, fv, ⟨G', g, dr, tk', os⟩, _, .ref C, some d, rfl, J, fun b o q => ?_, ge, hoe, ⟨hc, hd⟩, hdat, h1, ?_, rfl, I1.bare, raises_own T.exC T.tyC, q1 d (I1.hok.fresh M.dbig)⟩
  · by_cases hb : b = e
    · have q' : G'.get? b = some o := q
      rw [hb, ge] at q'; cases q'
    · exact (gk b hb).symm.trans q
  · rw [upd_ne (Ne.symm M.dne)]
    exact I1.hok.fresh M.new
/-- raise C(e) -/
def tRaiseE (C : Addr) (at_ : Str) (W : WX) (ta : TA) : TS := fun _ σ H => tMkE C at_ ta σ H fun cls d H' => W cls d σ H'
theorem ps_raiseE {a : Expr} {ta : TA} {W : WX} {p pos pos2 : Pos} {k : Nat} (hc : X.calm = true) (T : ErrTxt X.K X.mg cl at_ qn C fI) (IO : InitOk X.K at_ C fI) (hr : Room k X.A) (tk : Takes X W) (ha : PA X [a] ta) (hg : Gl X cl := by rfl) (hdb : (cl == ("__debug__" : Str)) = false := by decide)
    (he : starEach (a :: []) X.env = (false, eval a X.env) :: starEach [] X.env := by rfl) (hpl : (backTo pos (starEach [] X.env)).any (·.1) = false := by rfl) :
    PS X (.Raise (some (.Call (.Name cl p) [a] [] pos)) none pos2) (tRaiseE C at_ W ta) := ps_raise hc tk (pmk_err T IO hr ha hg hdb he hpl)
/-- a caught error, kept: its class, its own dict -/
def ErG (C d e : Addr) : HO := .ext fun h => ∃ (oe : Obj) (vs : Array Value), h.get? e = some oe ∧ oe.cls = .ref C ∧ oe.dict = some d ∧ oe.data = .fields vs
def ErH (cls : Value) (d : Option Addr) (e : Addr) : HO := .ext fun h => ∃ (oe : Obj) (vs : Array Value), h.get? e = some oe ∧ oe.cls = cls ∧ oe.dict = d ∧ oe.data = .fields vs
theorem erH_eq {C d e : Addr} : ErH (.ref C) (some d) e = ErG C d e := rfl
end
/-- what the clause 'except x as n' wishes, where the error is kept behind the suite -/
def wAsK (K : PySem.W.Frag) (c : Value) (i : Nat) (ts : Addr → Value → Option Addr → TS) (Wout : WX) (D : Ends) : WX := fun cls d σ H =>
  ∃ b, PySem.W.exmOne K cls c = some b ∧ (b = true → ∀ a, H a = none → ts a cls d { nx := fun σ' H' => D.nx (σ'.set i none) (upd H' a (ErH cls d a)), rt := fun v H' => D.rt v (upd H' a (ErH cls d a)), bk := fun σ' H' => D.bk (σ'.set i none) (upd H' a (ErH cls d a)), ct := fun σ' H' => D.ct (σ'.set i none) (upd H' a (ErH cls d a)) } (σ.set i (some (.ref a))) H) ∧
    (b = false → Wout cls d σ H)
section
variable {X : Cx} {pins : List (Addr × Obj)} {σ : L2.St} {H : Hp} {s : Shared}
/-- an object that is new since the entry and was not tracked is tracked -/
theorem Inv.track {a : Addr} {oe : Obj} {vs : Array Value} {cls : Value} {d : Option Addr} (I : Inv X pins σ H s) (e : s.heap.get? a = some oe) (hz : Zc cls d oe) (hd : oe.data = .fields vs) (na : H a = none) (n0 : X.s_0.heap.get? a = none) (nL : a ≠ X.env.locals) (np : ∀ p ∈ X.pn ++ pins, p.1 ≠ a) :
    Inv X pins σ (upd H a (ErH cls d a)) s := by
  have ba : ∀ b o, X.s_0.heap.get? b = some o → b ≠ a := fun b o q z => by
    rw [z, n0] at q
    cases q
  have ht : ∀ b u, H b = some u → b ≠ a := fun b u q z => by
    rw [z, na] at q
    cases q
  have cne : ∀ x c, X.env.cells.lookup x = some c → c ≠ a := fun x c q z => by
    obtain ⟨v, o, ho, hv⟩ := I.cell x c q
    rw [z, e] at ho
    cases ho
    rw [hd] at hv
    cases hv
  refine ⟨I.ok, I.os, I.bare, ⟨I.base.keep, I.base.slot, fun b o q n hx => ?_, I.base.there, fun b xs q => ?_, fun b o u q => ?_, fun b ps q => ?_⟩, I.loc, I.cell, ?_, fun x c q => ?_, fun p hp => ?_, fun b u q => ?_, I.len⟩
  · rw [upd_ne (ba b o q)]
    exact I.base.free b o q n hx
  · have q' := I.base.tups b xs q
    rw [upd_ne (ht _ _ q')]
    exact q'
  · have q' := I.base.frzs b o u q
    rw [upd_ne (ht _ _ q')]
    exact q'
  · obtain ⟨m, q'⟩ := I.base.tbls b ps q
    exact ⟨m, by rw [upd_ne (ht _ _ q')]; exact q'⟩
  · rw [upd_ne (Ne.symm nL)]
    exact I.free
  · rw [upd_ne (cne x c q)]
    exact I.freeC x c q
  · obtain ⟨p1, p2, p3⟩ := I.pin p hp
    exact ⟨p1, by rw [upd_ne (np p hp)]; exact p2, p3⟩
  · by_cases hb : b = a
    · subst hb
      rw [upd_same] at q
      cases q
      exact ⟨⟨oe, vs, e, hz.1, hz.2, hd⟩, ⟨oe, e⟩, fun _ _ ⟨o, v, q, r⟩ k => ⟨o, v, k o q, r⟩⟩
    · rw [upd_ne hb] at q
      exact (I.hok b u q).stay (fun c v _ q => q) (fun c q => by rw [upd_ne (ht _ _ q)]; exact q) fun c xs q => by rw [upd_ne (ht _ _ q)]; exact q
end
section
variable {X : Cx} {x n : Str} {c : Value} {i : Nat} {body suite : List Stmt} {b₀ : Stmt} {npq pos pos' : Pos} {tb : WX → TS} {ts : Addr → Value → Option Addr → TS} {Wout : WX}
theorem ps_try_keep (hs : X.stack = X.env :: X.outer) (hf : X.env.frame = some X.env.locals) (hex : X.ex = []) (hN : X.N.Nodup) (hi : X.N[i]? = some n) (hln : X.env.kindOf n = some .local) (hc : Names X x c) (tk : Takes X Wout)
    (hb : ∀ (W : WX) (pn : List (Addr × Obj)) (xe : Value → Shared → Prop), Takes (X.tr pn xe) W → PassesOwn (model X.prog X.w) X.A X.env xe → PSs (X.tr pn xe) body (tb W))
    (hsu : ∀ (a : Addr) (oe : Obj) (cls : Value) (d : Option Addr) (pn : List (Addr × Obj)), Zc cls d oe → (∃ vs, oe.data = .fields vs) → PSs (X.suite a ((a, oe) :: pn)) (b₀ :: suite) (ts a cls d)) :
    PS X (.Try body [.ExceptHandler (some (.Name x npq)) (some n) (b₀ :: suite) pos'] [] [] pos) (fun D σ H => tb (wAsK X.K c i ts Wout D) D σ H) := by
  refine ⟨fun pins s σ H D I h => ?_⟩
  have ok := I.ok
  have hfr : X.A.frames = some (X.env :: X.outer) := by rw [ok.frames, hs]
  have hloc : Loc X.env.scope n := .inl hln
  refine wpAny_Try_except ?_
  refine wpAny_mono ((hb (wAsK X.K c i ts Wout D) (X.pn ++ pins) (fun e s₁ => wpAny (model X.prog X.w) X.A (noteFrame e X.env) (fun _ s₂ => wpAny (model X.prog X.w) X.A (setFlight e none) (fun _ s₃ =>
    wpAny (model X.prog X.w) X.A (handleBy e X.env [.ExceptHandler (some (.Name x npq)) (some n) (b₀ :: suite) pos']) (SP X pins D) X.xe s₃) X.xe s₂) X.xe s₁) (fun u s' xx => ?_) PassesOwn.looking).run [] s σ H D (I.toTry _) h) (fun f s1 hsp => ?_) (fun e s1 he => he)
  · obtain ⟨a, B, sI, pins', σ', H', cls, d, rfl, J', nb, up, sky, na, os, ag, b, hb1, hyes, hno⟩ := xx
    have J : Inv X pins σ' H' sI := J'.ofTry ok
    have sky' : Sky B (X.env :: X.outer) a (Zc cls d) X.env.locals s'.heap := by rw [← hs]; exact sky
    show wpAny (model X.prog X.w) X.A (noteFrame (.ref a) X.env) _ _ _
    refine Sky.land Zc.steady hfr hf sky' fun h3 fl3 up3 => ?_
    have J3 : Inv X pins σ' H' { s' with heap := h3 } := J.landed nb fl3.1 (up.trans up3) os ag
    obtain ⟨oe3, vs3, he3, hz3, hd3⟩ := fl3.there
    have notFr : ∀ {h : Heap} {o : Obj} {vs : Array Value}, h.FunFrames B (X.env :: X.outer) → h.get? a = some o → o.data = .fields vs → a ∉ frs (X.env :: X.outer) := fun {h o vs} ff e dd hm => by
      obtain ⟨_, o', e', hnf⟩ := ff.mem hm
      rw [e] at e'; cases e'
      exact hnf _ dd
    have nfr := notFr fl3.2.2.1 he3 hd3
    have nL : a ≠ X.env.locals := fun z => nfr (List.mem_filterMap.mpr ⟨X.env, List.mem_cons_self, by rw [hf, z]⟩)
    have nF : a ∉ X.fs := fun hm => by
      obtain ⟨e, he, q⟩ := List.mem_filterMap.mp hm
      exact nfr (List.mem_filterMap.mpr ⟨e, List.mem_cons_of_mem _ he, q⟩)
    have aI : sI.heap.get? a = none := by
      cases q : sI.heap.get? a with
      | none => rfl
      | some o =>
        have z := nb a o q (by rw [hs]; exact nfr)
        rw [fl3.2.1] at z
        cases z
    have n0 : X.s_0.heap.get? a = none := by
      cases q : X.s_0.heap.get? a with
      | none => rfl
      | some o =>
        obtain ⟨o', z⟩ := J.base.there a o q (by rw [hex]; exact fun z => nomatch z)
        rw [aI] at z
        cases z
    have np : ∀ p ∈ X.pn ++ pins, p.1 ≠ a := fun p hp z => by
      have q := (J.pin p hp).1
      rw [z, aI] at q
      cases q
    have S3 := J3.suite he3 hd3 na nL nF
    refine wpAny_handleBy_cons (codeAny_handlers_test ?_) (by intro q; cases q)
    have LT : PySem.W.Looks (model X.prog X.w) h3 (typeOf (.ref a)) cls := fun A Q E s k q => wpAny_typeOf_ref (k _ _ he3) (by rw [hz3.1]; exact q)
    have LM := PySem.W.exm_one (M := model X.prog X.w) (J3.kIn) LT hb1
    have test : ∀ {Q : Value → Shared → Prop} {E : Value → Shared → Prop}, Q c { s' with heap := h3 } → wpAny (model X.prog X.w) (X.A.mark (some (.ref a))) (eval (.Name x npq) X.env) Q E { s' with heap := h3 } := fun {Q E} q => by
      obtain ⟨hg, hdbg, hm | ⟨hm, hv, hnn⟩⟩ := hc
      · exact ld_glob (X := X.suite a ((a, oe3) :: (X.pn ++ pins))) S3 hg hm q hdbg
      · exact ld_blt (X := X.suite a ((a, oe3) :: (X.pn ++ pins))) S3 hg hm hv q hnn hdbg
    refine test (LM.here ?_)
    cases b with
    | true =>
      refine codeAny_handlers_suite_as ?_
      refine HandSPX.lands_againZ fl3 fun h4 fl4 up4 => ?_
      have J4 : Inv X pins σ' H' { s' with heap := h4 } := J.landed nb fl4.1 ((up.trans up3).trans up4) os ag
      obtain ⟨oe4, vs4, he4, hz4, hd4⟩ := fl4.there
      have S4 := J4.suite he4 hd4 na nL nF
      refine store_ok (X := X.suite a ((a, oe4) :: (X.pn ++ pins))) (v := .ref a) S4 hN hi hloc rfl (fun s5 S5 => ?_) (.inr hln)
      refine wpAny_mono ((hsu a oe4 cls d (X.pn ++ pins) hz4 ⟨_, hd4⟩).run [] s5 _ H' _ S5 (hyes rfl a na)) (fun f s6 hsp => ?_) (fun _ _ z => False.elim z)
      have end_ : ∀ {σ6 : L2.St} {H6 : Hp} {Q : Shared → Prop}, Inv (X.suite a ((a, oe4) :: (X.pn ++ pins))) [] σ6 H6 s6 → (∀ s7, Inv X pins (σ6.set i none) (upd H6 a (ErH cls d a)) s7 → Q s7) →
          wpAny (model X.prog X.w) X.A (do bindName X.env n .none; unbindBehindTheSuite X.env n pos') (fun _ s7 => Q s7) X.xe s6 := fun {σ6 H6 Q} S6 hq => by
        obtain ⟨p1, p2, _⟩ := S6.pin (a, oe4) (by simp)
        exact gone_ok (Inv.track (S6.unsuite ok) p1 hz4 hd4 p2 n0 nL np) hN hi hln hq
      cases f with
      | next =>
        obtain ⟨σ6, H6, S6, q6⟩ := hsp
        exact end_ S6 fun s7 J7 => ⟨_, _, J7, q6⟩
      | brk =>
        obtain ⟨σ6, H6, S6, q6⟩ := hsp
        exact end_ S6 fun s7 J7 => ⟨_, _, J7, q6⟩
      | cont =>
        obtain ⟨σ6, H6, S6, q6⟩ := hsp
        exact end_ S6 fun s7 J7 => ⟨_, _, J7, q6⟩
      | ret u =>
        obtain ⟨v6, σ6, H6, S6, r6, q6⟩ := hsp
        exact end_ S6 fun s7 J7 => ⟨_, _, _, J7, r6, q6⟩
    | false =>
      show wpAny _ X.A (handleBy (.ref a) X.env []) _ _ _
      refine wpAny_handleBy_nil ?_
      obtain ⟨k1, k2, k3, oe, vs, T, oT, ts', he, hz, hd, h1, hr⟩ := id fl3
      unfold PySem.passOn
      refine wpAny_bind (wpAny_field he hd h1 ?_)
      rw [if_neg (show ¬ ((Value.ref T == Value.none) = true) from by simp)]
      have fin : wpAny (model X.prog X.w) X.A (setFlight (.ref a) X.env.frame) (fun _ s4 => wpAny (model X.prog X.w) X.A (throw (.ref a) : Sem Flow) (SP X pins D) X.xe s4) X.xe { s' with heap := h3 } := by
        rw [hf]
        refine HandSPX.setFlight_upZ fl3 fun h4 hh4 up4 => wpAny_throw (tk _ _ ?_)
        exact ⟨a, B, sI, pins, σ', H', cls, d, rfl, J, nb, (up.trans up3).trans up4, .inr (.inr (by rw [hs]; exact hh4)), na, os, ag, hno rfl⟩
      first
        | exact wpAny_bind (wpAny_pure (wpAny_bind fin))
        | exact wpAny_bind fin
  · cases f with
    | next =>
      obtain ⟨σ', H', J', q⟩ := hsp
      exact wpAny_execs_nil ⟨σ', H', J'.ofTry ok, q⟩
    | brk =>
      obtain ⟨σ', H', J', q⟩ := hsp
      exact ⟨σ', H', J'.ofTry ok, q⟩
    | cont =>
      obtain ⟨σ', H', J', q⟩ := hsp
      exact ⟨σ', H', J'.ofTry ok, q⟩
    | ret u =>
      obtain ⟨v, σ', H', J', r, q⟩ := hsp
      exact ⟨v, σ', H', J'.ofTry ok, r, q⟩
end
end Sk

/-! A kept error: its field, its class. -/
namespace Sk
open PySem PySem.Spec PyProof.Rows L2 Evl PySem.SkE
def IsErG (H : Hp) (C : Addr) (at_ : Str) (e : Addr) (v : V) : Prop := ∃ d, H e = some (ErG C d e) ∧ H d = some (.xd [(at_, v)])
section
variable {X : Cx} {pins : List (Addr × Obj)} {σ : L2.St} {H : Hp} {s : Shared} {cl at_ qn : Str} {C fI : Addr}
theorem IsErG.inst (I : Inv X pins σ H s) {e : Addr} {v : V} (h : IsErG H C at_ e v) : ∃ oe od, PySem.W.InstAt s.heap e oe C (some od) ∧ ∃ u, RelV v u ∧ PySem.W.lookIn at_ od = some (some u) := by
  obtain ⟨d, h1, h2⟩ := h
  obtain ⟨⟨oe, vs, g, c, dd, da⟩, _⟩ := (show ObjOk X.prog X.w H s.heap e (ErG C d e) from I.hok _ _ h1)
  obtain ⟨mA, hns, hr⟩ := (show ObjOk X.prog X.w H s.heap d (.xd [(at_, v)]) from I.hok _ _ h2)
  obtain ⟨od, ho, hl⟩ := lookIn_ns hns
  have l : List.lookup at_ [(at_, v)] = some v := by simp [List.lookup]
  obtain ⟨u, hu, ru⟩ := RelO.some_of (v := v) (o := mA at_) (by rw [← l]; exact hr at_)
  refine ⟨oe, od, ⟨g, c, by unfold PySem.W.notCls; rw [da] <;> rfl, by rw [dd]; exact ho⟩, u, ru, by rw [hl, hu]⟩
/-- e.attr -/
def tErgFld (C : Addr) (at_ : Str) (te : TE) : TE := fun σ H Q => te σ H fun x H1 => ∃ e v, x = .ref e ∧ IsErG H1 C at_ e v ∧ Q v H1
theorem pe_ergFld {e : Expr} {te : TE} {pos : Pos} (T : ErrTxt X.K X.mg cl at_ qn C fI) (he : PE X e te) (hb : attributeBase e at_ X.env (eval e X.env) = eval e X.env := by rfl) : PE X (.Attribute e at_ pos) (tErgFld C at_ te) := by
  refine ⟨fun pins s σ H Q I h => attr_of hb (thn (he.run pins s σ H _ I h) fun u s1 hh => ?_)⟩
  obtain ⟨x, H1, I1, rx, e0, v, ex, hi, q⟩ := hh
  subst ex
  cases (show u = Value.ref e0 from rx)
  obtain ⟨oe, od, J, u, ru, hl⟩ := hi.inst I1
  exact HandSPX.exc_get I1.kIn J T.ga T.gg T.exC (PySem.W.findObj_own T.hdC T.noN rfl hl) (handed_of ru) ⟨v, H1, I1.tok _, ru, q⟩
/-- isinstance(e, class) -/
theorem call_isErG (T : ErrTxt X.K X.mg cl at_ qn C fI) : CallR X (.builtin "isinstance") (fun xs H Q => ∃ (e : Addr) (v c : V) (u : Value) (b : Bool), xs = [.ref e, c] ∧ ClsV c u ∧ IsErG H C at_ e v ∧ PySem.W.kitOne X.K (.ref C) u = some b ∧ Q (.bl b) H) := by
  intro pins s σ H xs us Q I r h
  obtain ⟨e, v, c, u, b, rfl, k, hi, hk, q⟩ := h
  obtain ⟨u1, u2, rfl, r1, r2⟩ := vals2 r
  cases (show u1 = Value.ref e from r1)
  have e2 := k.eq r2
  subst e2
  obtain ⟨oe, od, J, _⟩ := hi.inst I
  exact PySem.W.kia_one (PySem.W.kitx_exc T.cl_ T.ga T.gg T.exC T.hCl T.hGt T.hTk T.hOb) I.kIn J hk (fun z => nomatch z) fun tk => ⟨.bl b, H, I.tok tk, rfl, q⟩
/-- isinstance(e, (class, ..)) -/
theorem call_isErGT (T : ErrTxt X.K X.mg cl at_ qn C fI) : CallR X (.builtin "isinstance") (fun xs H Q => ∃ (e t : Addr) (v : V) (cs : List V) (us : List Value) (b : Bool), xs = [.ref e, .ref t] ∧ H t = some (.tup cs) ∧ Paired ClsV cs us ∧ IsErG H C at_ e v ∧ PySem.W.kitAny X.K (.ref C) us = some b ∧ Q (.bl b) H) := by
  intro pins s σ H xs us Q I r h
  obtain ⟨e, t, v, cs, cu, b, rfl, ht, hc, hi, hk, q⟩ := h
  obtain ⟨u1, u2, rfl, r1, r2⟩ := vals2 r
  cases (show u1 = Value.ref e from r1)
  cases (show u2 = Value.ref t from r2)
  obtain ⟨oe, od, J, _⟩ := hi.inst I
  obtain ⟨_, its, rv, o, h1, h2, n, h3⟩ := (show ObjOk X.prog X.w H s.heap t (.tup cs) from I.hok t _ ht)
  have e3 := ClsV.all hc rv
  subst e3
  obtain ⟨oc, oq, dt, sl⟩ := o
  cases (show oc = _ from h2)
  cases (show dt = _ from h3)
  exact PySem.W.kia_tup (PySem.W.kitx_exc T.cl_ T.ga T.gg T.exC T.hCl T.hGt T.hTk T.hOb) I.kIn J h1 hk (fun z => nomatch z) fun tk => ⟨.bl b, H, I.tok tk, rfl, q⟩
end
end Sk

/-! A script made in a try; what it refuses. -/
namespace Sk
open PySem PySem.Spec PyProof.Rows L2 Evl PySem.SkE
def tMakeS (C : Addr) (sp : Sp) (E : L2.St → XK) (t : TA) : TE := fun σ H Q => t σ H fun vs H1 => ∀ x dx, H1 x = Option.none → H1 dx = Option.none → dx ≠ x →
  sp (V.ref x :: vs) (upd (upd H1 dx (.own x)) x (.ins C dx [])) (fun v H2 => v = .non ∧ Q (.ref x) H2) (E σ)
section
variable {X : Cx} {CX : CXT} {k : Nat} {f C : Addr} {sp : Sp} {x : Str} {e : Expr} {es : List Expr} {t : TA} {p pos : Pos}
theorem run_makeS {E : XK} {pins : List (Addr × Obj)} {σ : L2.St} {H : Hp} {s : Shared} {Q : VK} {us : List Value} {vs : List V} (M : Mk X.K C f) (F : FnR X.prog X.w X.K X.mg X.base CX k f sp) (hr : Room (k + 1) X.A) (hx : PassesAt CX X σ E) (I : Inv X pins σ H s) (r : Vals vs us)
    (h : ∀ x dx, H x = Option.none → H dx = Option.none → dx ≠ x → sp (V.ref x :: vs) (upd (upd H dx (.own x)) x (.ins C dx [])) (fun v H2 => v = .non ∧ Q (.ref x) H2) E) :
    wpAny (model X.prog X.w) X.A (call (.ref C) us) (EP X pins σ Q) X.xe s := by
  have hq := h (s.heap.objs.size + 1) s.heap.objs.size (I.hok.fresh (Nat.le_succ _)) (I.hok.fresh (Nat.le_refl _)) (Nat.ne_of_lt (Nat.lt_succ_self _))
  have I2 := Inv.made (C := C) I
  have r2 : Vals (V.ref (s.heap.objs.size + 1) :: vs) (Value.ref (s.heap.objs.size + 1) :: us) := .cons rfl r
  refine wpAny_call (make_map (f := f) I.kIn M.makes M.init (beq_iff_eq.mp M.fn) (codeAny_mono (F _ X.stack _ _ (Value.ref (s.heap.objs.size + 1) :: us) _ _ E (hr.make C us []) (I2.env0.make C us []) r2 hq) fun r s' hq' => ?_))
  cases r with
  | error e => exact hx pins _ _ e s' I2 hq'
  | ok fl =>
    cases fl with
    | ret u =>
      obtain ⟨v, H', I3, rv, ev, q3⟩ := I2.after hq'
      subst ev
      exact ⟨rv, ⟨V.ref (s.heap.objs.size + 1), H', I3, rfl, q3⟩⟩
    | next => exact False.elim hq'
    | brk => exact False.elim hq'
    | cont => exact False.elim hq'
/-- C(e, ..), what is raised wished for at the slots -/
theorem pe_makeS {E : L2.St → XK} (M : Mk X.K C f) (F : FnR X.prog X.w X.K X.mg X.base CX k f sp) (hr : Room (k + 1) X.A) (hg : Gl X x) (hm : X.mg x = some (.ref C)) (hx : ∀ σ, PassesAt CX X σ (E σ)) (ha : PA X (e :: es) t) (hdb : (x == ("__debug__" : Str)) = false := by decide)
    (he : starEach (e :: es) X.env = (false, eval e X.env) :: starEach es X.env := by rfl) (hpl : (backTo pos (starEach es X.env)).any (·.1) = false := by rfl) : PE X (.Call (.Name x p) (e :: es) [] pos) (tMakeS C sp E t) := by
  refine ⟨fun pins s σ H Q I h => ?_⟩
  refine wpAny_Call_Name_kw (ld_glob I hg hm ?_ hdb)
  refine PySem.W.callWith_K (h₀ := X.base) I.ok.mod.kin M.kp (thn (ha.run pos pins s σ H _ I h) fun us s1 ⟨vs, H1, I1, r, q⟩ => ⟨I1.kIn, ?_⟩) he hpl
  exact run_makeS M F hr (hx σ) I1 r q
end
/-- refused -/
def Rfd (K : PySem.W.Frag) (H : Hp) (v : V) : Prop := (∃ t : Value, (∀ H', Ex H H' → TyX K H' v t) ∧ PySem.W.kitAny K t [.type "list", .type "tuple"] = some false) ∨
  (∃ (a : Addr) (ws : List V) (bs : List Bool), v = .ref a ∧ (H a = some (.lst ws) ∨ H a = some (.tup ws)) ∧ Els K H ws bs ∧ ws.length ≤ 100000 ∧ bs.all id = false)
def spIniX (K : PySem.W.Frag) (W : Addr) : Sp := fun vs H _ E => ∃ (p : Addr) (v : V), vs = [.ref p, v] ∧ Rfd K H v ∧ ∀ H' dd, Ex H H' → H' dd = none → E (.ref W) (some dd) (upd H' dd (.xd [("steps", v)]))
section
variable {P : Program} {w : World} {K : PySem.W.Frag} {mg : Str → Option Value} {base : Heap} {f g : Addr} {fd gd : FuncData} {W fI : Addr} {qn : Str}
theorem ok_iniX {k : Nat} (F : Fun K "__init__" "Script.__init__" sInit f fd) (Ar : Lt P w K mg base g gd "are_steps" ["thing"] 3 (spAreB K)) (Tw : ErrTxt K mg "BadScript" "steps" qn W fI) : FnOk P w K mg base (L2.CX P w) (k + 5) f fd ["self", "steps"] (spIniX K W) := by
  refine F.okX scIni (fun vs H Q E h => ?_) (fun cdv A outer s H vs Q E hr h => ?_)
  · obtain ⟨_, _, rfl, _⟩ := h
    rfl
  have nd := scIni.nd
  have hr3 : Room 3 _ := hr.mono (by omega)
  obtain ⟨p, v, rfl, rf, q⟩ := h
  refine ⟨_, pss_cons (ps_if (pt_not (pt_val (pe_call Ar.g hr3 rfl Ar.m Ar.k Ar.b .nil pass0 (pa_cons (pv 1) pa_nil)))) (pss_one (ps_raiseE rfl Tw (init_steps Tw) hr (takes_of rfl rfl rfl rfl) (pa_cons (pv 1) pa_nil))) pss_nil)
    (pss_cons ps_never (pss_cons ps_never (pss_one ps_never))), ?_⟩
  refine ⟨_, rfl, ?_⟩
  rcases rf with ⟨t, ht, hk⟩ | ⟨a, ws, bs, rfl, ha | ha, he, le, hb⟩
  · exact .inl ⟨v, t, rfl, ht, hk, fun H' x => ⟨_, rfl, iteT ⟨_, rfl, _, rfl, fun dd hdd => q H' dd x hdd⟩⟩⟩
  · refine .inr (.inl ⟨a, ws, bs, rfl, ha, he, le, fun H' x => ?_⟩)
    rw [hb]
    exact ⟨_, rfl, iteT ⟨_, rfl, _, rfl, fun dd hdd => q H' dd x hdd⟩⟩
  · refine .inr (.inr ⟨a, ws, bs, rfl, ha, he, le, fun H' x => ?_⟩)
    rw [hb]
    exact ⟨_, rfl, iteT ⟨_, rfl, _, rfl, fun dd hdd => q H' dd x hdd⟩⟩
end
end Sk

/-! A script made in a try: of steps, or refused. -/
namespace Sk
open PySem PySem.Spec PyProof.Rows L2 Evl PySem.SkE
section
variable {P : Program} {w : World} {K : PySem.W.Frag} {mg : Str → Option Value} {base : Heap} {f g g2 g3 : Addr} {fd gd gd2 gd3 : FuncData} {C W fI : Addr} {qn : Str}
theorem ok_iniL (F : Fun K "__init__" "Script.__init__" sInit f fd) (B : Blt mg) (B2 : Blt2 mg) (T : ScT K mg C) (Ar : Lt P w K mg base g gd "are_steps" ["thing"] 3 spAre) : FnOk P w K mg base (L2.CX P w) 5 f fd ["self", "steps"] (spIni C) := by
  refine F.okX scIni (fun vs H Q E h => ?_) (fun cdv A outer s H vs Q E hr h => ?_)
  · obtain ⟨_, _, _, _, _, rfl, _⟩ := h
    rfl
  obtain ⟨p, l, dx, ws, es, rfl, hp, hl, hd, oe, le, q⟩ := h
  have nd := scIni.nd
  have hr3 : Room 3 _ := hr.mono (by decide)
  refine ⟨_, pss_cons (ps_if (pt_not (pt_val (pe_call Ar.g hr3 rfl Ar.m Ar.k Ar.b .nil pass0 (pa_cons (pv 1) pa_nil)))) (pss_one ps_never) pss_nil)
    (pss_cons (ps_fld (pv 0) (pe_callTy call_tuple_of rfl B2.tuple bt_tuple (pa_cons (pv 1) pa_nil)) rfl)
    (pss_cons (ps_fld (pv 0) (pe_join pe_str (pe_lc (own := [("step", 2)]) (g := gName 2) (tt := tTest (tOp rNe (tOp (rIxT K) (tVar 2) (tC (.int 0))) (tC (.str "put")))) (te := tOp (rIxT K) (tVar 2) (tC (.int 1))) rfl nd (pi_tup (pe_fld (pv 0) rfl)) (blkOk_by (N := NIni) (sc := defScope sInit) (by decide +kernel)) (fun _ _ _ _ _ => pg_name (i := 2) nd rfl (Or.inl rfl))
        (fun _ _ _ _ _ => pts_one (pt_cmpR op_ne (pe_ix ix_tup (pv 2) pe_int (fun _ _ => rfl)) pe_str (nomark _))) (fun _ _ _ _ _ => pe_ix ix_tup (pv 2) pe_int (fun _ _ => rfl)))) rfl)
    (pss_one (ps_fld (pv 0) (pe_join pe_str (pe_lc (own := [("step", 2)]) (g := gName 2) (tt := tTest (tOp rNe (tOp (rIxT K) (tVar 2) (tC (.int 0))) (tC (.str "drop")))) (te := tOp (rIxT K) (tVar 2) (tUn (rU fun i => .int (-i)) (tC (.int 1)))) rfl nd (pi_tup (pe_fld (pv 0) rfl)) (blkOk_by (N := NIni) (sc := defScope sInit) (by decide +kernel)) (fun _ _ _ _ _ => pg_name (i := 2) nd rfl (Or.inl rfl))
        (fun _ _ _ _ _ => pts_one (pt_cmpR op_ne (pe_ix ix_tup (pv 2) pe_int (fun _ _ => rfl)) pe_str (nomark _))) (fun _ _ _ _ _ => pe_ix ix_tup (pv 2) (pe_un un_neg pe_int) (fun _ _ => rfl)))) rfl)))), ?_⟩
  refine ⟨_, rfl, l, ws, es, rfl, hl, hd.mono hd_le, oe, fun H1 x1 => ⟨_, rfl, ?_⟩⟩
  refine iteF ?_
  have hp1 := x1 _ _ hp
  have hl1 := x1 _ _ hl
  have pl : l ≠ p := fun z => by subst z; rw [hl] at hp; cases hp
  refine ⟨_, rfl, l, ws, rfl, .inl ⟨SqL.of hl1, fun t nt => ⟨_, rfl, p, C, dx, [], rfl, (by rw [upd_ne (ne_of_none hp1 nt)]; exact hp1), T.cl, T.nS, (by show 0 < 1000; decide), ?_⟩⟩⟩
  have ntp : t ≠ p := fun z => by subst z; rw [hp1] at nt; cases nt
  have x2 : Ex (Hd p H) (Hd p (upd (upd H1 t (.tup ws)) p (.ins C dx (putF "steps" (.ref t) [])))) := fun b o e => by
    obtain ⟨n, e'⟩ := hd_some e
    have e1 := x1 _ _ e'
    exact hd_of n (by rw [upd_ne n, upd_ne (ne_of_none e1 nt)]; exact e1)
  have ht2 : Hd p (upd (upd H1 t (.tup ws)) p (.ins C dx (putF "steps" (.ref t) []))) t = some (.tup ws) := hd_of ntp (by rw [upd_ne ntp, upd_same])
  have hp2 : upd (upd H1 t (.tup ws)) p (.ins C dx (putF "steps" (.ref t) [])) p = some (.ins C dx (putF "steps" (.ref t) [])) := upd_same
  generalize upd (upd H1 t (.tup ws)) p (.ins C dx (putF "steps" (.ref t) [])) = H2 at x2 ht2 hp2 ⊢
  have lk : (putF "steps" (V.ref t) []).lookup ("steps" : Str) = some (.ref t) := by rw [lookup_putF, if_pos rfl]
  -- what it reads
  refine ⟨⟨_, rfl⟩, _, rfl, p, C, dx, _, _, rfl, hp2, T.cl, T.nS, lk, t, rfl, ⟨_, SqT.of (hd_le _ _ ht2)⟩, fun D hD => ?_⟩
  refine lc_tup (xs := ws) (fun i H' => Ex H2 H' ∧ H' D = some (.lst ((givenE (es.take i)).map fun c => V.str (one c)))) ⟨Ex.new hD, upd_same⟩ (fun i H' _ z => SqT.of (z.1 _ _ (hd_le _ _ ht2))) (fun i x H' hx z => ?_) (fun H3 z => ?_)
  · obtain ⟨z1, z2⟩ := z
    obtain ⟨d, hdd, hq⟩ := hd.get hx
    rw [List.getElem?_map] at hdd
    obtain ⟨e, he, rfl⟩ := Option.map_eq_some_iff.mp hdd
    obtain ⟨a, rfl, ha⟩ := ed_inv (hq.mono (x2.trans (hd_le.trans z1)))
    obtain ⟨r, er⟩ := edV_tag e
    refine ⟨rfl, _, rfl, a, _, _, _, rfl, rfl, SqT.of ha, (by rw [er]; exact atI_nat (j := 0) rfl), rfl, _, rfl, ?_⟩
    rw [tag_put]
    cases hpe : e.isPut with
    | true => exact iteF ⟨z1, by rw [given_snoc he, inn_put hpe, List.append_nil]; exact z2⟩
    | false =>
      obtain ⟨c, ec, hc⟩ := at1 hpe
      refine iteT ⟨_, rfl, a, _, _, _, rfl, rfl, SqT.of ha, hc, _, z2, ?_, z1.mut hD, ?_⟩
      · rw [sizeLine_eq, List.length_map]
        have := given_len (es.take i)
        rw [List.length_take] at this
        omega
      · rw [upd_same, given_snoc he, ec, List.map_append]; rfl
  obtain ⟨x3, hD3⟩ := z
  have lw : ws.length = es.length := by rw [hd.length, List.length_map]
  rw [lw, List.take_length] at hD3
  have jn : ∀ cs : List Nat, Txt.join (Str.ofString "") (cs.map one) = tx cs := fun cs => (TL.join_eq _ _).trans (join_tx cs)
  have bn : ∀ cs : List Nat, cs.length ≤ 100000 → ((cs.map one).map (·.length)).sum + (cs.map one).length * (Str.ofString "").length ≤ 16777216 := fun cs h => by
    have e0 : (Str.ofString "").length = 0 := rfl
    rw [sum_one, e0]; omega
  have gl := given_len es
  have ml := made_len es
  refine ⟨_, D, (givenE es).map one, rfl, rfl, .inl (SqL.of (by rw [hD3, List.map_map]; rfl)), bn _ (by omega), ?_⟩
  rw [jn]
  refine ⟨_, rfl, p, C, dx, _, rfl, x3 _ _ hp2, T.cl, T.nG, (by show 1 < 1000; decide), ?_⟩
  have x4 : Ex (Hd p H2) (Hd p (upd H3 p (.ins C dx (putF "given" (.str (tx (givenE es))) (putF "steps" (.ref t) []))))) := fun b o e => by
    obtain ⟨n, e'⟩ := hd_some e
    exact hd_of n (by rw [upd_ne n]; exact x3 _ _ e')
  have hp4 : upd H3 p (.ins C dx (putF "given" (.str (tx (givenE es))) (putF "steps" (.ref t) []))) p = some (.ins C dx (putF "given" (.str (tx (givenE es))) (putF "steps" (.ref t) []))) := upd_same
  generalize upd H3 p (.ins C dx (putF "given" (.str (tx (givenE es))) (putF "steps" (.ref t) []))) = H4 at x4 hp4 ⊢
  have ht4 := x4 _ _ ht2
  have lk2 : (putF "given" (.str (tx (givenE es))) (putF "steps" (V.ref t) [])).lookup ("steps" : Str) = some (.ref t) := by rw [lookup_putF, if_neg sg_, lookup_putF, if_pos rfl]
  -- what it writes
  refine ⟨⟨_, rfl⟩, _, rfl, p, C, dx, _, _, rfl, hp4, T.cl, T.nS, lk2, t, rfl, ⟨_, SqT.of (hd_le _ _ ht4)⟩, fun D' hD' => ?_⟩
  refine lc_tup (xs := ws) (fun i H' => Ex H4 H' ∧ H' D' = some (.lst ((madeE (es.take i)).map fun c => V.str (one c)))) ⟨Ex.new hD', upd_same⟩ (fun i H' _ z => SqT.of (z.1 _ _ (hd_le _ _ ht4))) (fun i x H' hx z => ?_) (fun H5 z => ?_)
  · obtain ⟨z1, z2⟩ := z
    obtain ⟨d, hdd, hq⟩ := hd.get hx
    rw [List.getElem?_map] at hdd
    obtain ⟨e, he, rfl⟩ := Option.map_eq_some_iff.mp hdd
    obtain ⟨a, rfl, ha⟩ := ed_inv (hq.mono ((x2.trans x4).trans (hd_le.trans z1)))
    obtain ⟨r, er⟩ := edV_tag e
    refine ⟨rfl, _, rfl, a, _, _, _, rfl, rfl, SqT.of ha, (by rw [er]; exact atI_nat (j := 0) rfl), rfl, _, rfl, ?_⟩
    rw [tag_drop]
    cases hpe : e.isDrop with
    | true => exact iteF ⟨z1, by rw [made_snoc he, out_drop hpe, List.append_nil]; exact z2⟩
    | false =>
      obtain ⟨c, ec, hc⟩ := atL hpe
      refine iteT ⟨_, rfl, _, rfl, a, _, _, _, rfl, rfl, SqT.of ha, hc, _, z2, ?_, z1.mut hD', ?_⟩
      · rw [sizeLine_eq, List.length_map]
        have := made_len (es.take i)
        rw [List.length_take] at this
        omega
      · rw [upd_same, made_snoc he, ec, List.map_append]; rfl
  obtain ⟨x5, hD5⟩ := z
  rw [lw, List.take_length] at hD5
  refine ⟨_, D', (madeE es).map one, rfl, rfl, .inl (SqL.of (by rw [hD5, List.map_map]; rfl)), bn _ (by omega), ?_⟩
  rw [jn]
  refine ⟨_, rfl, p, C, dx, _, rfl, x5 _ _ hp4, T.cl, T.nM, ?_, ?_⟩
  · show (putF "given" (.str (tx (givenE es))) (putF "steps" (V.ref t) [])).length < 1000
    show (if ("steps" : Str) = "given" then _ else _ : List (Str × V)).length < 1000
    rw [if_neg sg_]
    show 2 < 1000
    decide
  have x6 : Ex (Hd p H4) (upd H5 p (.ins C dx (sf t (tx (givenE es)) (tx (madeE es))))) := fun b o e => by
    obtain ⟨n, e'⟩ := hd_some e
    rw [upd_ne n]; exact x5 _ _ e'
  have xA : Ex (Hd p H) (upd H5 p (.ins C dx (sf t (tx (givenE es)) (tx (madeE es))))) := (x2.trans x4).trans x6
  exact q _ xA ⟨dx, t, ws, upd_same, x6 _ _ ht4, hd.mono xA⟩
theorem ok_iniTL (F : Fun K "__init__" "Script.__init__" sInit f fd) (B : Blt mg) (B2 : Blt2 mg) (T : ScT K mg C) (Ar : Lt P w K mg base g gd "are_steps" ["thing"] 3 spAreT) : FnOk P w K mg base (L2.CX P w) 5 f fd ["self", "steps"] (spIniT C) := by
  refine F.okX scIni (fun vs H Q E h => ?_) (fun cdv A outer s H vs Q E hr h => ?_)
  · obtain ⟨_, _, _, _, _, rfl, _⟩ := h
    rfl
  obtain ⟨p, l, dx, ws, es, rfl, hp, hl, hd, oe, le, q⟩ := h
  have nd := scIni.nd
  have hr3 : Room 3 _ := hr.mono (by decide)
  refine ⟨_, pss_cons (ps_if (pt_not (pt_val (pe_call Ar.g hr3 rfl Ar.m Ar.k Ar.b .nil pass0 (pa_cons (pv 1) pa_nil)))) (pss_one ps_never) pss_nil)
    (pss_cons (ps_fld (pv 0) (pe_callTy call_tupleT rfl B2.tuple bt_tuple (pa_cons (pv 1) pa_nil)) rfl)
    (pss_cons (ps_fld (pv 0) (pe_join pe_str (pe_lc (own := [("step", 2)]) (g := gName 2) (tt := tTest (tOp rNe (tOp (rIxT K) (tVar 2) (tC (.int 0))) (tC (.str "put")))) (te := tOp (rIxT K) (tVar 2) (tC (.int 1))) rfl nd (pi_tup (pe_fld (pv 0) rfl)) (blkOk_by (N := NIni) (sc := defScope sInit) (by decide +kernel)) (fun _ _ _ _ _ => pg_name (i := 2) nd rfl (Or.inl rfl))
        (fun _ _ _ _ _ => pts_one (pt_cmpR op_ne (pe_ix ix_tup (pv 2) pe_int (fun _ _ => rfl)) pe_str (nomark _))) (fun _ _ _ _ _ => pe_ix ix_tup (pv 2) pe_int (fun _ _ => rfl)))) rfl)
    (pss_one (ps_fld (pv 0) (pe_join pe_str (pe_lc (own := [("step", 2)]) (g := gName 2) (tt := tTest (tOp rNe (tOp (rIxT K) (tVar 2) (tC (.int 0))) (tC (.str "drop")))) (te := tOp (rIxT K) (tVar 2) (tUn (rU fun i => .int (-i)) (tC (.int 1)))) rfl nd (pi_tup (pe_fld (pv 0) rfl)) (blkOk_by (N := NIni) (sc := defScope sInit) (by decide +kernel)) (fun _ _ _ _ _ => pg_name (i := 2) nd rfl (Or.inl rfl))
        (fun _ _ _ _ _ => pts_one (pt_cmpR op_ne (pe_ix ix_tup (pv 2) pe_int (fun _ _ => rfl)) pe_str (nomark _))) (fun _ _ _ _ _ => pe_ix ix_tup (pv 2) (pe_un un_neg pe_int) (fun _ _ => rfl)))) rfl)))), ?_⟩
  refine ⟨_, rfl, l, ws, es, rfl, hl, hd.mono hd_le, oe, fun H1 x1 => ⟨_, rfl, ?_⟩⟩
  refine iteF ?_
  have hp1 := x1 _ _ hp
  have hl1 := x1 _ _ hl
  have pl : l ≠ p := fun z => by subst z; rw [hl] at hp; cases hp
  refine ⟨_, rfl, l, ws, rfl, SqT.of hl1, _, rfl, p, C, dx, [], rfl, hp1, T.cl, T.nS, (by show 0 < 1000; decide), ?_⟩
  obtain ⟨t, ntp, hl1⟩ : ∃ t, t ≠ p ∧ H1 t = some (.tup ws) ∧ t = l := ⟨l, pl, hl1, rfl⟩
  obtain ⟨hl1, rfl⟩ := hl1
  have x2 : Ex (Hd p H) (Hd p (upd H1 p (.ins C dx (putF "steps" (.ref t) [])))) := fun b o e => by
    obtain ⟨n, e'⟩ := hd_some e
    exact hd_of n (by rw [upd_ne n]; exact x1 _ _ e')
  have ht2 : Hd p (upd H1 p (.ins C dx (putF "steps" (.ref t) []))) t = some (.tup ws) := hd_of ntp (by rw [upd_ne ntp]; exact hl1)
  have hp2 : upd H1 p (.ins C dx (putF "steps" (.ref t) [])) p = some (.ins C dx (putF "steps" (.ref t) [])) := upd_same
  generalize upd H1 p (.ins C dx (putF "steps" (.ref t) [])) = H2 at x2 ht2 hp2 ⊢
  have lk : (putF "steps" (V.ref t) []).lookup ("steps" : Str) = some (.ref t) := by rw [lookup_putF, if_pos rfl]
  -- what it reads
  refine ⟨⟨_, rfl⟩, _, rfl, p, C, dx, _, _, rfl, hp2, T.cl, T.nS, lk, t, rfl, ⟨_, SqT.of (hd_le _ _ ht2)⟩, fun D hD => ?_⟩
  refine lc_tup (xs := ws) (fun i H' => Ex H2 H' ∧ H' D = some (.lst ((givenE (es.take i)).map fun c => V.str (one c)))) ⟨Ex.new hD, upd_same⟩ (fun i H' _ z => SqT.of (z.1 _ _ (hd_le _ _ ht2))) (fun i x H' hx z => ?_) (fun H3 z => ?_)
  · obtain ⟨z1, z2⟩ := z
    obtain ⟨d, hdd, hq⟩ := hd.get hx
    rw [List.getElem?_map] at hdd
    obtain ⟨e, he, rfl⟩ := Option.map_eq_some_iff.mp hdd
    obtain ⟨a, rfl, ha⟩ := ed_inv (hq.mono (x2.trans (hd_le.trans z1)))
    obtain ⟨r, er⟩ := edV_tag e
    refine ⟨rfl, _, rfl, a, _, _, _, rfl, rfl, SqT.of ha, (by rw [er]; exact atI_nat (j := 0) rfl), rfl, _, rfl, ?_⟩
    rw [tag_put]
    cases hpe : e.isPut with
    | true => exact iteF ⟨z1, by rw [given_snoc he, inn_put hpe, List.append_nil]; exact z2⟩
    | false =>
      obtain ⟨c, ec, hc⟩ := at1 hpe
      refine iteT ⟨_, rfl, a, _, _, _, rfl, rfl, SqT.of ha, hc, _, z2, ?_, z1.mut hD, ?_⟩
      · rw [sizeLine_eq, List.length_map]
        have := given_len (es.take i)
        rw [List.length_take] at this
        omega
      · rw [upd_same, given_snoc he, ec, List.map_append]; rfl
  obtain ⟨x3, hD3⟩ := z
  have lw : ws.length = es.length := by rw [hd.length, List.length_map]
  rw [lw, List.take_length] at hD3
  have jn : ∀ cs : List Nat, Txt.join (Str.ofString "") (cs.map one) = tx cs := fun cs => (TL.join_eq _ _).trans (join_tx cs)
  have bn : ∀ cs : List Nat, cs.length ≤ 100000 → ((cs.map one).map (·.length)).sum + (cs.map one).length * (Str.ofString "").length ≤ 16777216 := fun cs h => by
    have e0 : (Str.ofString "").length = 0 := rfl
    rw [sum_one, e0]; omega
  have gl := given_len es
  have ml := made_len es
  refine ⟨_, D, (givenE es).map one, rfl, rfl, .inl (SqL.of (by rw [hD3, List.map_map]; rfl)), bn _ (by omega), ?_⟩
  rw [jn]
  refine ⟨_, rfl, p, C, dx, _, rfl, x3 _ _ hp2, T.cl, T.nG, (by show 1 < 1000; decide), ?_⟩
  have x4 : Ex (Hd p H2) (Hd p (upd H3 p (.ins C dx (putF "given" (.str (tx (givenE es))) (putF "steps" (.ref t) []))))) := fun b o e => by
    obtain ⟨n, e'⟩ := hd_some e
    exact hd_of n (by rw [upd_ne n]; exact x3 _ _ e')
  have hp4 : upd H3 p (.ins C dx (putF "given" (.str (tx (givenE es))) (putF "steps" (.ref t) []))) p = some (.ins C dx (putF "given" (.str (tx (givenE es))) (putF "steps" (.ref t) []))) := upd_same
  generalize upd H3 p (.ins C dx (putF "given" (.str (tx (givenE es))) (putF "steps" (.ref t) []))) = H4 at x4 hp4 ⊢
  have ht4 := x4 _ _ ht2
  have lk2 : (putF "given" (.str (tx (givenE es))) (putF "steps" (V.ref t) [])).lookup ("steps" : Str) = some (.ref t) := by rw [lookup_putF, if_neg sg_, lookup_putF, if_pos rfl]
  -- what it writes
  refine ⟨⟨_, rfl⟩, _, rfl, p, C, dx, _, _, rfl, hp4, T.cl, T.nS, lk2, t, rfl, ⟨_, SqT.of (hd_le _ _ ht4)⟩, fun D' hD' => ?_⟩
  refine lc_tup (xs := ws) (fun i H' => Ex H4 H' ∧ H' D' = some (.lst ((madeE (es.take i)).map fun c => V.str (one c)))) ⟨Ex.new hD', upd_same⟩ (fun i H' _ z => SqT.of (z.1 _ _ (hd_le _ _ ht4))) (fun i x H' hx z => ?_) (fun H5 z => ?_)
  · obtain ⟨z1, z2⟩ := z
    obtain ⟨d, hdd, hq⟩ := hd.get hx
    rw [List.getElem?_map] at hdd
    obtain ⟨e, he, rfl⟩ := Option.map_eq_some_iff.mp hdd
    obtain ⟨a, rfl, ha⟩ := ed_inv (hq.mono ((x2.trans x4).trans (hd_le.trans z1)))
    obtain ⟨r, er⟩ := edV_tag e
    refine ⟨rfl, _, rfl, a, _, _, _, rfl, rfl, SqT.of ha, (by rw [er]; exact atI_nat (j := 0) rfl), rfl, _, rfl, ?_⟩
    rw [tag_drop]
    cases hpe : e.isDrop with
    | true => exact iteF ⟨z1, by rw [made_snoc he, out_drop hpe, List.append_nil]; exact z2⟩
    | false =>
      obtain ⟨c, ec, hc⟩ := atL hpe
      refine iteT ⟨_, rfl, _, rfl, a, _, _, _, rfl, rfl, SqT.of ha, hc, _, z2, ?_, z1.mut hD', ?_⟩
      · rw [sizeLine_eq, List.length_map]
        have := made_len (es.take i)
        rw [List.length_take] at this
        omega
      · rw [upd_same, made_snoc he, ec, List.map_append]; rfl
  obtain ⟨x5, hD5⟩ := z
  rw [lw, List.take_length] at hD5
  refine ⟨_, D', (madeE es).map one, rfl, rfl, .inl (SqL.of (by rw [hD5, List.map_map]; rfl)), bn _ (by omega), ?_⟩
  rw [jn]
  refine ⟨_, rfl, p, C, dx, _, rfl, x5 _ _ hp4, T.cl, T.nM, ?_, ?_⟩
  · show (putF "given" (.str (tx (givenE es))) (putF "steps" (V.ref t) [])).length < 1000
    show (if ("steps" : Str) = "given" then _ else _ : List (Str × V)).length < 1000
    rw [if_neg sg_]
    show 2 < 1000
    decide
  have x6 : Ex (Hd p H4) (upd H5 p (.ins C dx (sf t (tx (givenE es)) (tx (madeE es))))) := fun b o e => by
    obtain ⟨n, e'⟩ := hd_some e
    rw [upd_ne n]; exact x5 _ _ e'
  have xA : Ex (Hd p H) (upd H5 p (.ins C dx (sf t (tx (givenE es)) (tx (madeE es))))) := (x2.trans x4).trans x6
  exact q _ xA ⟨dx, t, ws, upd_same, x6 _ _ ht4, hd.mono xA⟩
def spIniB (K : PySem.W.Frag) (C W : Addr) : Sp := fun vs H Q E => spIni C vs H Q E ∨ (spIniT C vs H Q E ∨ spIniX K W vs H Q E)
theorem ok_iniB (F : Fun K "__init__" "Script.__init__" sInit f fd) (B : Blt mg) (B2 : Blt2 mg) (T : ScT K mg C) (A1 : Lt P w K mg base g gd "are_steps" ["thing"] 3 spAre) (A2 : Lt P w K mg base g2 gd2 "are_steps" ["thing"] 3 spAreT) (A3 : Lt P w K mg base g3 gd3 "are_steps" ["thing"] 3 (spAreB K)) (Tw : ErrTxt K mg "BadScript" "steps" qn W fI) :
    FnOk P w K mg base (L2.CX P w) 5 f fd ["self", "steps"] (spIniB K C W) := fn_or (ok_iniL F B B2 T A1) (fn_or (ok_iniTL F B B2 T A2) (ok_iniX (k := 0) F A3 Tw))
end
end Sk

/-! _law_told: a script, or what was refused. -/
namespace Sk
open PySem PySem.Spec PyProof.Rows L2 Evl PySem.SkE
theorem Els.mono {K : PySem.W.Frag} {H H' : Hp} {ws : List V} {bs : List Bool} (x : Ex H H') (h : Els K H ws bs) : Els K H' ws bs :=
  ⟨h.1, fun i v hv => by
    obtain ⟨b, h1, h2⟩ := h.2 i v hv
    exact ⟨b, h1, h2.mono x⟩⟩
theorem Rfd.mono {K : PySem.W.Frag} {H H' : Hp} {v : V} (x : Ex H H') (h : Rfd K H v) : Rfd K H' v := by
  rcases h with ⟨t, ht, hk⟩ | ⟨a, ws, bs, rfl, ha, he, le, hb⟩
  · exact .inl ⟨t, fun H2 x2 => ht H2 (x.trans x2), hk⟩
  · exact .inr ⟨a, ws, bs, rfl, ha.imp (x _ _) (x _ _), he.mono x, le, hb⟩
theorem mk_ex {C x dx : Addr} {H1 : Hp} (nx : H1 x = none) (ndx : H1 dx = none) : Ex H1 (upd (upd H1 dx (.own x)) x (.ins C dx [])) ∧ Ex H1 (Hd x (upd (upd H1 dx (.own x)) x (.ins C dx []))) := by
  have e1 : Ex H1 (upd (upd H1 dx (.own x)) x (.ins C dx [])) := fun b o e => by
    rw [upd_ne (ne_of_none e nx), upd_ne (ne_of_none e ndx)]; exact e
  exact ⟨e1, fun b o e => hd_of (ne_of_none e nx) (e1 _ _ e)⟩
abbrev NTold : List Str := ["thing", "script", "caught", "error"]
theorem scTold : FnScope NTold ["thing"] (defScope sTold) := ⟨rfl, rfl, rfl, by decide +kernel, rfl, by decide +kernel, by decide +kernel⟩
def spTold (K : PySem.W.Frag) (C : Addr) : Sp := fun vs H Q _ => ∃ v : V, vs = [v] ∧
  ((∃ (l : Addr) (ws : List V) (es : List (Ed Nat)), v = .ref l ∧ (H l = some (.lst ws) ∨ H l = some (.tup ws)) ∧ DqAll H ws (es.map edD) ∧ (∀ e ∈ es, Ed.ok e) ∧ es.length ≤ 100000 ∧ ∀ r x H', Ex H H' → ScAt C H' x es → H' r = some (.tup [.ref x, .non]) → Q (.ref r) H') ∨
   (Rfd K H v ∧ ∀ r c H', Ex H H' → H' c = some (.lst [v]) → H' r = some (.tup [.non, .ref c]) → Q (.ref r) H'))
section
variable {P : Program} {w : World} {K : PySem.W.Frag} {mg : Str → Option Value} {base : Heap} {f g : Addr} {fd : FuncData} {C W fI : Addr} {qn : Str}
theorem ok_told (F : Fun K "_law_told" "_law_told" sTold f fd) (Tw : ErrTxt K mg "BadScript" "steps" qn W fI) (te : PySem.W.exmOne K (.ref W) (.ref W) = some true) (mC : mg "Script" = some (.ref C)) (M : Mk K C g) (G : FnR P w K mg base (L2.CX P w) 5 g (spIniB K C W)) : FnOk P w K mg base CX0 7 f fd ["thing"] (spTold K C) := by
  refine F.ok scTold (fun vs H Q E h => ?_) (fun cdv A outer s H vs Q E hr h => ?_)
  · obtain ⟨_, rfl, _⟩ := h
    rfl
  have nd := scTold.nd
  obtain ⟨v, rfl, h⟩ := h
  refine ⟨_, pss_cons (ps_asg (pe_tup (pa_cons pe_non (pa_cons pe_non pa_nil))) (pg_tup rfl (pgs_cons (pg_name (i := 1) nd rfl (Or.inl rfl)) (pgs_cons (pg_name (i := 2) nd rfl (Or.inl rfl)) pgs_nil))))
    (pss_cons (ps_try_as (i := 3) (tb := fun Wx => tAsg (tMakeS C (spIniB K C W) (WE Wx) (tCons (tVar 0) tNil)) (gName 1)) (ts := fun a cls d => tAsg (tLst (tCons (tXf a cls d W "steps" (tVar 3)) tNil)) (gName 2)) (Wout := fun _ _ _ _ => False) rfl rfl nd rfl rfl ⟨rfl, by decide, Or.inl Tw.gC⟩ takes0
        (fun Wx pn xe tk _ => pss_one (ps_set (i := 1) nd rfl (Or.inl rfl) (by exact (pe_makeS M G hr rfl mC (fun σ => passAt tk σ) (by exact (pa_cons (pv 0) pa_nil))))))
        (fun a oe cls d pn hz hf => pss_one (ps_set (i := 2) nd rfl (Or.inl rfl) (by exact (pe_lst (pa_cons (pe_xf ⟨Tw.ga, Tw.gg, Tw.exC, Tw.hdC⟩ Tw.noN hz hf (pv 3)) pa_nil))))))
    (pss_one (ps_ret (pe_tup (pa_cons (pv 1) (pa_cons (pv 2) pa_nil)))))), ?_⟩
  refine ⟨nle' (by show 2 ≤ 1000; decide), fun pt npt => ⟨pt, _, rfl, SqT.of upd_same, rfl, _, _, rfl, _, _, rfl, rfl, ?_⟩⟩
  have x0 := Ex.new (o := HO.tup [.non, .non]) npt
  generalize upd H pt (HO.tup [.non, .non]) = H0 at x0 ⊢
  rcases h with ⟨l, ws, es, rfl, hl, hd, oe, le, q⟩ | ⟨rf, q⟩
  · refine ⟨_, rfl, ?_⟩
    intro x dx nx ndx ne
    obtain ⟨e1, e2⟩ := mk_ex (C := C) nx ndx
    rcases hl with hl | hl
    · refine .inl ⟨x, l, dx, ws, es, rfl, upd_same, e1 _ _ (x0 _ _ hl), (hd.mono x0).mono e2, oe, le, fun H1 x1 s1 => ⟨rfl, ?_⟩⟩
      exact ⟨_, rfl, _, rfl, nle' (by show 2 ≤ 1000; decide), fun r nr => q r x _ (x0.trans (e2.trans (x1.trans (Ex.new nr)))) (s1.mono (Ex.new nr)) upd_same⟩
    · refine .inr (.inl ⟨x, l, dx, ws, es, rfl, upd_same, e1 _ _ (x0 _ _ hl), (hd.mono x0).mono e2, oe, le, fun H1 x1 s1 => ⟨rfl, ?_⟩⟩)
      exact ⟨_, rfl, _, rfl, nle' (by show 2 ≤ 1000; decide), fun r nr => q r x _ (x0.trans (e2.trans (x1.trans (Ex.new nr)))) (s1.mono (Ex.new nr)) upd_same⟩
  · refine ⟨_, rfl, ?_⟩
    intro x dx nx ndx ne
    obtain ⟨e1, e2⟩ := mk_ex (C := C) nx ndx
    refine .inr (.inr ⟨x, v, rfl, (rf.mono x0).mono e1, fun H1 dd x1 hdd => ⟨true, te, fun _ a na => ?_, fun z => nomatch z⟩⟩)
    have xd : Ex H1 (upd H1 dd (.xd [("steps", v)])) := Ex.new hdd
    refine ⟨_, rfl, rfl, rfl, dd, _, v, rfl, upd_same, by simp [List.lookup], nle' (by show 1 ≤ 1000; decide), fun c nc => ?_⟩
    refine ⟨_, rfl, _, rfl, nle' (by show 2 ≤ 1000; decide), fun r nr => q r c _ ((((x0.trans e1).trans x1).trans xd).trans ((Ex.new nc).trans (Ex.new nr))) ((Ex.new nr) _ _ upd_same) upd_same⟩
end
end Sk

/-! What steps read, write and cost, in a list or a tuple. -/
namespace Sk
open PySem PySem.Spec PyProof.Rows L2 Evl
theorem scGiven : FnScope ["steps", "step"] ["steps"] (defScope sGiven) := ⟨rfl, rfl, rfl, by decide +kernel, rfl, by decide +kernel, by decide +kernel⟩
def spGivenT : Sp := fun vs H Q _ => ∃ (l : Addr) (ws : List V) (es : List (Ed Nat)), vs = [.ref l] ∧ H l = some (.tup ws) ∧ DqAll H ws (es.map edD) ∧ es.length ≤ 100000 ∧ ∀ H', Ex H H' → Q (.str (tx (givenE es))) H'
def spMadeT : Sp := fun vs H Q _ => ∃ (l : Addr) (ws : List V) (es : List (Ed Nat)), vs = [.ref l] ∧ H l = some (.tup ws) ∧ DqAll H ws (es.map edD) ∧ es.length ≤ 100000 ∧ ∀ H', Ex H H' → Q (.str (tx (madeE es))) H'
section
variable {P : Program} {w : World} {K : PySem.W.Frag} {mg : Str → Option Value} {base : Heap} {f g : Addr} {fd gd : FuncData}
theorem ok_givenT {k : Nat} (F : Fun K "_law_given" "_law_given" sGiven f fd) : FnOk P w K mg base CX0 (k + 1) f fd ["steps"] spGivenT := by
  refine F.ok scGiven (fun vs H Q E h => ?_) (fun cdv A outer s H vs Q E hr h => ?_)
  · obtain ⟨_, _, _, rfl, _⟩ := h
    rfl
  obtain ⟨l, ws, es, rfl, hl, hd, le, q⟩ := h
  have nd := scGiven.nd
  refine ⟨_, pss_one (ps_ret (pe_join pe_str (pe_lc (own := [("step", 1)]) (g := gName 1) (tt := tTest (tOp rNe (tOp (rIxT K) (tVar 1) (tC (.int 0))) (tC (.str "put")))) (te := tOp (rIxT K) (tVar 1) (tC (.int 1))) rfl nd (pi_tup (pv 0)) (blkOk_by (N := ["steps", "step"]) (sc := defScope sGiven) (by decide +kernel)) (fun _ _ _ _ _ => pg_name (i := 1) nd rfl (Or.inl rfl))
        (fun _ _ _ _ _ => pts_one (pt_cmpR op_ne (pe_ix ix_tup (pv 1) pe_int (fun _ _ => rfl)) pe_str (nomark _))) (fun _ _ _ _ _ => pe_ix ix_tup (pv 1) pe_int (fun _ _ => rfl))))), ?_⟩
  refine ⟨⟨_, rfl⟩, _, rfl, l, rfl, ⟨_, SqT.of hl⟩, fun D hD => ?_⟩
  refine lc_tup (xs := ws) (fun i H' => Ex H H' ∧ H' D = some (.lst ((givenE (es.take i)).map fun c => V.str (one c)))) ⟨Ex.new hD, upd_same⟩ (fun i H' _ z => SqT.of (z.1 _ _ hl)) (fun i x H' hx z => ?_) (fun H5 z => ?_)
  · obtain ⟨z1, z2⟩ := z
    obtain ⟨d, hdd, hq⟩ := hd.get hx
    rw [List.getElem?_map] at hdd
    obtain ⟨e, he, rfl⟩ := Option.map_eq_some_iff.mp hdd
    obtain ⟨a, rfl, ha⟩ := ed_inv (hq.mono z1)
    obtain ⟨r, er⟩ := edV_tag e
    refine ⟨rfl, _, rfl, a, _, _, _, rfl, rfl, SqT.of ha, (by rw [er]; exact atI_nat (j := 0) rfl), rfl, _, rfl, ?_⟩
    rw [tag_put]
    cases hpe : e.isPut with
    | true => exact iteF ⟨z1, by rw [given_snoc he, inn_put hpe, List.append_nil]; exact z2⟩
    | false =>
      obtain ⟨c, ec, hc⟩ := at1 hpe
      refine iteT ⟨_, rfl, a, _, _, _, rfl, rfl, SqT.of ha, hc, _, z2, ?_, z1.mut hD, ?_⟩
      · rw [sizeLine_eq, List.length_map]
        have := given_len (es.take i)
        rw [List.length_take] at this
        omega
      · rw [upd_same, given_snoc he, ec, List.map_append]; rfl
  obtain ⟨z1, z2⟩ := z
  have lw : ws.length = es.length := by rw [hd.length, List.length_map]
  rw [lw, List.take_length] at z2
  have e0 : (Str.ofString "").length = 0 := rfl
  have ml := given_len es
  refine ⟨_, D, (givenE es).map one, rfl, rfl, .inl (SqL.of (by rw [z2, List.map_map]; rfl)), by rw [sum_one, e0]; omega, ?_⟩
  rw [TL.join_eq]
  have e : Str.join (Str.ofString "") ((givenE es).map one) = tx (givenE es) := join_tx _
  rw [e]
  exact q H5 z1
theorem ok_madeT {k : Nat} (F : Fun K "_law_made" "_law_made" sMade f fd) : FnOk P w K mg base CX0 (k + 1) f fd ["steps"] spMadeT := by
  refine F.ok scMade (fun vs H Q E h => ?_) (fun cdv A outer s H vs Q E hr h => ?_)
  · obtain ⟨_, _, _, rfl, _⟩ := h
    rfl
  obtain ⟨l, ws, es, rfl, hl, hd, le, q⟩ := h
  have nd := scMade.nd
  refine ⟨_, pss_one (ps_ret (pe_join pe_str (pe_lc (own := [("step", 1)]) (g := gName 1) (tt := tTest (tOp rNe (tOp (rIxT K) (tVar 1) (tC (.int 0))) (tC (.str "drop")))) (te := tOp (rIxT K) (tVar 1) (tUn (rU fun i => .int (-i)) (tC (.int 1)))) rfl nd (pi_tup (pv 0)) (blkOk_by (N := ["steps", "step"]) (sc := defScope sMade) (by decide +kernel)) (fun _ _ _ _ _ => pg_name (i := 1) nd rfl (Or.inl rfl))
        (fun _ _ _ _ _ => pts_one (pt_cmpR op_ne (pe_ix ix_tup (pv 1) pe_int (fun _ _ => rfl)) pe_str (nomark _))) (fun _ _ _ _ _ => pe_ix ix_tup (pv 1) (pe_un un_neg pe_int) (fun _ _ => rfl))))), ?_⟩
  refine ⟨⟨_, rfl⟩, _, rfl, l, rfl, ⟨_, SqT.of hl⟩, fun D hD => ?_⟩
  refine lc_tup (xs := ws) (fun i H' => Ex H H' ∧ H' D = some (.lst ((madeE (es.take i)).map fun c => V.str (one c)))) ⟨Ex.new hD, upd_same⟩ (fun i H' _ z => SqT.of (z.1 _ _ hl)) (fun i x H' hx z => ?_) (fun H5 z => ?_)
  · obtain ⟨z1, z2⟩ := z
    obtain ⟨d, hdd, hq⟩ := hd.get hx
    rw [List.getElem?_map] at hdd
    obtain ⟨e, he, rfl⟩ := Option.map_eq_some_iff.mp hdd
    obtain ⟨a, rfl, ha⟩ := ed_inv (hq.mono z1)
    obtain ⟨r, er⟩ := edV_tag e
    refine ⟨rfl, _, rfl, a, _, _, _, rfl, rfl, SqT.of ha, (by rw [er]; exact atI_nat (j := 0) rfl), rfl, _, rfl, ?_⟩
    rw [tag_drop]
    cases hpe : e.isDrop with
    | true => exact iteF ⟨z1, by rw [made_snoc he, out_drop hpe, List.append_nil]; exact z2⟩
    | false =>
      obtain ⟨c, ec, hc⟩ := atL hpe
      refine iteT ⟨_, rfl, _, rfl, a, _, _, _, rfl, rfl, SqT.of ha, hc, _, z2, ?_, z1.mut hD, ?_⟩
      · rw [sizeLine_eq, List.length_map]
        have := made_len (es.take i)
        rw [List.length_take] at this
        omega
      · rw [upd_same, made_snoc he, ec, List.map_append]; rfl
  obtain ⟨z1, z2⟩ := z
  have lw : ws.length = es.length := by rw [hd.length, List.length_map]
  rw [lw, List.take_length] at z2
  have e0 : (Str.ofString "").length = 0 := rfl
  have ml := made_len es
  refine ⟨_, D, (madeE es).map one, rfl, rfl, .inl (SqL.of (by rw [z2, List.map_map]; rfl)), by rw [sum_one, e0]; omega, ?_⟩
  rw [TL.join_eq]
  have e : Str.join (Str.ofString "") ((madeE es).map one) = tx (madeE es) := join_tx _
  rw [e]
  exact q H5 z1
end
end Sk


/-! A def called where it is known that no repr runs around. -/
namespace Sk
open PySem PySem.Spec PyProof.Rows L2 Evl
structure FnG (P : Program) (w : World) (K : PySem.W.Frag) (mg : Str → Option Value) (base : Heap) (k : Nat) (f : Addr) (fd : FuncData) (ps : List Str) (sp : Sp) : Prop where
  len : ∀ vs H Q E, sp vs H Q E → vs.length = ps.length
  run : ∀ (A : Around) (outer : List Env) (s : Shared) (H : Hp) (args : Args) (us : List Value) (vs : List V) (Q : VK), A.guards = some [] → Room k A → Env0 P w K mg base A outer s H → BindsTo s fd args (ps.zip us) → Vals vs us → sp vs H Q E0 →
    codeAny (model P w) A (.call (.ref f) args) (CR CX0 outer P w H s Q E0) s
theorem fng_of {P : Program} {w : World} {K : PySem.W.Frag} {mg : Str → Option Value} {base : Heap} {x qual : Str} {st : Stmt} {f : Addr} {fd : FuncData} {N ps : List Str} {k : Nat} {sp : Sp} (F : Fun K x qual st f fd) (S : FnScope N ps (defScope st)) (len : ∀ vs H Q E, sp vs H Q E → vs.length = ps.length)
    (hbody : ∀ (cdv : Value) (A : Around) (outer : List Env) (s : Shared) (H : Hp) (vs : List V) (Q : VK), Room k (A.deeper (envOfC qual (defScope st) s.heap.objs.size f cdv)) → (A.deeper (envOfC qual (defScope st) s.heap.objs.size f cdv)).guards = some [] → sp vs H Q E0 →
      ∃ t, PSs (cxOf CX0 P w K mg base N qual (defScope st) f cdv A outer s H E0).nox (defBody st) t ∧ t { nx := fun _ H' => Q .non H', rt := Q } (start N vs) H) : FnG P w K mg base (k + 1) f fd ps sp := by
  obtain ⟨oc, od, kV, doc, pm, an, cdv, ct, osl, rfl, lk, hcd⟩ := F.ex
  refine ⟨len, fun A outer s H args us vs Q hgd hr e0 hb r hsp => ?_⟩
  have hl := len _ _ _ _ hsp
  have kp : ∀ b o, base.get? b = some o → s.heap.get? b = some o := fun b o z => (e0.bs b o z).1
  have kin := e0.mod.kin.keeps kp
  have kind : ∀ q ∈ ps.zip us, (defScope st).names.lookup q.1 = some .local ∨ ((defScope st).names.lookup q.1 = some .cell ∧ ((cellsFrom (s.heap.objs.size + 1) (defScope st).names []).lookup q.1).isSome = true) := by
    intro q hq
    exact (S.par q.1 (List.of_mem_zip (show (q.1, q.2) ∈ ps.zip us from hq)).1).imp (fun z => z) fun z => ⟨z, PySem.W.cellsFrom_some _ _ _ (.inl z)⟩
  refine codeAny_call_function hr.depth (kin _ _ lk) rfl S.co S.gen rfl (PySem.W.codeRec_of kin hcd) (hb _ _ _ _ (wpAny_newFunctionEnv_cells S.kind kind fun env he s1 z => ?_))
  subst he
  refine ⟨(e0.mod.nolimit.keeps kp).keeps z.toInCall.keep, codeAny_func ?_⟩
  obtain ⟨t, ht, hq⟩ := hbody cdv A outer s H vs Q (hr.deeper _) hgd hsp
  have I : Inv (cxOf CX0 P w K mg base N qual (defScope st) f cdv A outer s H E0) [] (start N vs) H s1 := inv_start S hr.hd e0 hl r z
  refine wpAny_mono (ht.nox.run [] s1 _ H _ I hq) (fun fl s' hs => ?_) fun e s' hs => hs
  cases fl with
  | ret r =>
    obtain ⟨v', _, H', J, rr, q⟩ := hs
    exact ⟨v', H', J.os, J.bare, J.base, J.hok, rr, q⟩
  | next =>
    obtain ⟨_, H', J, q⟩ := hs
    exact ⟨.non, H', J.os, J.bare, J.base, J.hok, rfl, q⟩
  | brk => obtain ⟨_, _, _, q⟩ := hs; exact q.elim
  | cont => obtain ⟨_, _, _, q⟩ := hs; exact q.elim
theorem pe_callG {X : Cx} {k : Nat} {f : Addr} {fd : FuncData} {ps : List Str} {sp : Sp} {x : Str} {p pos : Pos} {e : Expr} {es : List Expr} {t : TA} (hgd : X.A.guards = some []) (F : FnG X.prog X.w X.K X.mg X.base k f fd ps sp) (hr : Room k X.A) (hg : Gl X x) (hm : X.mg x = some (.ref f)) (hk : PySem.W.keepIn X.K (.ref f) = true) (hb : Binds X.K fd ps [])
    (hx : Passes CX0 X E0) (ha : PA X (e :: es) t) (hdb : (x == ("__debug__" : Str)) = false := by decide) (he : starEach (e :: es) X.env = (false, eval e X.env) :: starEach es X.env := by rfl) (hpl : (backTo pos (starEach es X.env)).any (·.1) = false := by rfl) :
    PE X (.Call (.Name x p) (e :: es) [] pos) (tCall sp [] E0 t) := by
  refine ⟨fun pins s σ H Q I h => wpAny_Call_Name_kw (ld_glob I hg hm (PySem.W.callWith_K (h₀ := X.base) I.ok.mod.kin hk (thn (ha.run pos pins s σ H _ I h) fun us s1 ⟨vs, H1, I1, r, q⟩ => ⟨I1.kIn, ?_⟩) he hpl) hdb)⟩
  have q' : sp vs H1 Q E0 := by simpa using q
  have hl : us.length = ps.length := by rw [← r.length]; exact F.len _ _ _ _ q'
  have hb' := hb s1 us I1.kIn (by simpa using hl)
  rw [List.append_nil] at hb'
  refine wpAny_call (codeAny_mono (F.run X.A X.stack s1 H1 ⟨us, []⟩ us vs Q hgd hr I1.env0 hb' r q') fun r s' hq => ?_)
  cases r with
  | error e => exact hx pins σ H1 s1 e s' I1 hq
  | ok fl =>
    cases fl with
    | ret u => exact I1.after hq
    | next => exact False.elim hq
    | brk => exact False.elim hq
    | cont => exact False.elim hq
end Sk

/-! Whether a thing is taken or refused rightly. -/
namespace Sk
open PySem PySem.Spec PyProof.Rows L2 Evl
abbrev NRight : List Str := ["thing", "seen", "due", "script", "caught", "kept", "look", "step"]
theorem scRight : FnScope NRight ["thing"] (defScope sRight) := ⟨rfl, rfl, rfl, by decide +kernel, rfl, by decide +kernel, by decide +kernel⟩
def rgL (H : Hp) (Q : VK) (vs : List V) : Prop := ∃ (l : Addr) (ws : List V) (ds : List PyData), vs = [.ref l] ∧ H l = some (.lst ws) ∧ DqAll (Hd l H) ws ds ∧ ds.length ≤ 91 ∧ (∀ d ∈ ds, Itm d) ∧ ∀ H', Ex (Hd l H) H' → Q (.bl true) H'
def rgT (H : Hp) (Q : VK) (vs : List V) : Prop := ∃ (l : Addr) (ws : List V) (ds : List PyData), vs = [.ref l] ∧ H l = some (.tup ws) ∧ DqAll H ws ds ∧ ds.length ≤ 91 ∧ (∀ d ∈ ds, Itm d) ∧ ∀ H', Ex H H' → Q (.bl true) H'
def rgX (K : PySem.W.Frag) (H : Hp) (Q : VK) (vs : List V) : Prop := ∃ (v : V) (t : Value) (d : PyData), vs = [v] ∧ (∀ H2, Ex H H2 → TyX K H2 v t) ∧ PySem.W.kitAny K t [.type "list", .type "tuple"] = some false ∧ (∀ H2, Ex H H2 → Rpr H2 v d) ∧ Shw d ∧ ∀ H', Ex H H' → Q (.bl true) H'
def spRight (K : PySem.W.Frag) : Sp := fun vs H Q _ => rgL H Q vs ∨ rgT H Q vs ∨ rgX K H Q vs
theorem kitA1 {K : PySem.W.Frag} {t : Value} (h : PySem.W.kitAny K t [.type "list", .type "tuple"] = some false) : PySem.W.kitOne K t (.type "list") = some false := by
  unfold PySem.W.kitAny at h
  split at h <;> first | assumption | cases h
theorem kitA2 {K : PySem.W.Frag} {t : Value} (h : PySem.W.kitAny K t [.type "list", .type "tuple"] = some false) : PySem.W.kitOne K t (.type "tuple") = some false := by
  unfold PySem.W.kitAny at h
  split at h
  · cases h
  · unfold PySem.W.kitAny at h
    split at h <;> first | assumption | cases h
  · cases h
theorem one_of {u : Str} (h : u.length = 1) : ∃ c, u = one c := by
  obtain ⟨⟨l⟩⟩ := u
  match l, h with
  | [c], _ => exact ⟨c, rfl⟩
theorem sgD_inv {d : PyData} (h : sgD d = true) : ∃ c, d = .str (one c) := by
  cases d with
  | str x =>
    obtain ⟨c, rfl⟩ := one_of (of_decide_eq_true (show decide (x.length = 1) = true from h))
    exact ⟨c, rfl⟩
  | _ => cases h
theorem stD_inv {d : PyData} (h : stD d = true) : ∃ e : Ed Nat, d = edD e ∧ Ed.ok e := by
  unfold stD at h
  split at h
  · rename_i w a
    simp only [Bool.and_eq_true, decide_eq_true_eq] at h
    obtain ⟨hw, ha⟩ := h
    obtain ⟨c, rfl⟩ := sgD_inv ha
    rcases hw with rfl | rfl | rfl
    · exact ⟨.keep c, rfl, trivial⟩
    · exact ⟨.put c, rfl, trivial⟩
    · exact ⟨.drop c, rfl, trivial⟩
  · rename_i w a b
    simp only [Bool.and_eq_true, decide_eq_true_eq] at h
    obtain ⟨hw, ha, hb, hn⟩ := h
    obtain ⟨x, hx⟩ := sgD_inv ha
    obtain ⟨y, hy⟩ := sgD_inv hb
    cases hx
    cases hy
    subst hw
    exact ⟨.swap x y, rfl, fun z => hn (by rw [z])⟩
  · cases h
theorem eds_of {ds : List PyData} (h : ds.all stD = true) : ∃ es : List (Ed Nat), ds = es.map edD ∧ ∀ e ∈ es, Ed.ok e := by
  induction ds with
  | nil => exact ⟨[], rfl, fun _ m => by cases m⟩
  | cons d ds ih =>
    simp only [List.all_cons, Bool.and_eq_true] at h
    obtain ⟨es, rfl, h2⟩ := ih h.2
    obtain ⟨e, rfl, h1⟩ := stD_inv h.1
    exact ⟨e :: es, rfl, fun x m => (List.mem_cons.mp m).elim (fun z => z ▸ h1) (h2 x)⟩
theorem hd_up1 {l : Addr} {H H4 : Hp} {o : HO} (x : Ex H H4) : Ex (Hd l H) (upd H4 l o) := fun b u e => by
  obtain ⟨n, e⟩ := hd_some e
  rw [upd_ne n]; exact x _ _ e
theorem hd_up2 {l : Addr} {H H4 : Hp} {o : HO} (x : Ex (Hd l H) H4) : Ex (Hd l H) (upd H4 l o) := fun b u e => by
  rw [upd_ne (hd_some e).1]; exact x _ _ e
theorem hd_app {l : Addr} {H H4 : Hp} {o : HO} {ws : List V} {ds : List PyData} {v : V} {d : PyData} (x : Ex H H4) (h : DqAll (Hd l H) ws ds) (hv : Dq (Hd l H) v d) : DqAll (upd H4 l o) (ws ++ [v]) (ds ++ [d]) :=
  dq_app (h.mono (hd_up1 x)) (.cons (hv.mono (hd_up1 x)) .nil)
theorem no_self {l : Addr} {H : Hp} {ds : List PyData} (h : DqAll (Hd l H) [.ref l] ds) : False := by
  cases h with
  | cons h _ => cases h with
    | lst e _ => exact (hd_some e).1 rfl
    | tup e _ => exact (hd_some e).1 rfl
    | dct e _ => exact (hd_some e).1 rfl
theorem hd_ins {l p C dx : Addr} {H : Hp} {ws : List V} {fs : List (Str × V)} (hl : H l = some (.lst ws)) (h : H p = some (.ins C dx fs)) : Hd l H p = some (.ins C dx fs) := hd_of (fun z => by rw [z, hl] at h; cases h) h
theorem hd_tup {l p : Addr} {H : Hp} {ws us : List V} (hl : H l = some (.lst ws)) (h : H p = some (.tup us)) : Hd l H p = some (.tup us) := hd_of (fun z => by rw [z, hl] at h; cases h) h
theorem itm_int0 : Itm (.int 0) := ⟨rfl, by decide +kernel, by decide +kernel, fun _ e => by cases e⟩
theorem els_of {K : PySem.W.Frag} {H : Hp} {ws : List V} {ds : List PyData} (h : DqAll H ws ds) (it : ∀ d ∈ ds, Itm d) : Els K H ws (ds.map stD) :=
  ⟨by rw [h.length, List.length_map], fun i v hv => by
    obtain ⟨d, hdd, hq⟩ := h.get hv
    exact ⟨stD d, by rw [List.getElem?_map, hdd]; rfl, .inl ⟨d, hq, (it d (List.mem_of_getElem? hdd)).f, rfl⟩⟩⟩
theorem rg_shw {ds : List PyData} (it : ∀ d ∈ ds, Itm d) (le : ds.length ≤ 93) : Shw (.list ds) ∧ Shw (.tuple ds) :=
  shw_seq (m := 93) (B := 300) (fun x m => ⟨(it x m).s, (it x m).z, by have := (it x m).d; omega⟩) le (by decide)
section
variable {P : Program} {w : World} {K : PySem.W.Frag} {mg : Str → Option Value} {base : Heap} {f fI fT fG fM C : Addr} {fd dI dT dG dM : FuncData}
theorem ok_right (F : Fun K "_law_right" "_law_right" sRight f fd) (B : Blt mg) (B2 : Blt2 mg) (T : ScT K mg C) (Is : Lt P w K mg base fI dI "_law_is_step" ["thing"] 1 spIS2) (To : Lt P w K mg base fT dT "_law_told" ["thing"] 7 (spTold K C))
    (Gv : Lt P w K mg base fG dG "_law_given" ["steps"] 1 spGivenT) (Ma : Lt P w K mg base fM dM "_law_made" ["steps"] 1 spMadeT) : FnG P w K mg base 8 f fd ["thing"] (spRight K) := by
  refine fng_of F scRight (fun vs H Q E h => ?_) (fun cdv A outer s H vs Q hr hgd h => ?_)
  · rcases h with ⟨_, _, _, rfl, _⟩ | ⟨_, _, _, rfl, _⟩ | ⟨_, _, _, rfl, _⟩ <;> rfl
  have nd := scRight.nd
  have hu : (A.deeper (envOfC "_law_right" (defScope sRight) s.heap.objs.size f cdv)).units + 64 < cLine := hr.units
  have hu0 : (A.deeper (envOfC "_law_right" (defScope sRight) s.heap.objs.size f cdv)).units < cLine := Nat.lt_of_le_of_lt (Nat.le_add_right _ 64) hr.units
  have hr1 : Room 1 _ := hr.mono (by decide)
  rcases h with h | h | h
  · refine ⟨_, pss_cons (ps_par (i := 1) (j := 2) rfl nd rfl rfl (by decide) rfl rfl (pa_cons (pe_callB (call_reprG hgd hu) rfl B.repr boot_repr (pa_cons (pv 0) pa_nil)) (pa_cons pe_bl pa_nil)) (by rfl))
    (pss_cons (ps_if (PW.pt (pw_or (pt_val (pe_callB call_isi rfl B.isi bt_isi (pa_cons (pv 0) (pa_cons (pe_bltn (v := .ty "list") rfl B.list bt_list rfl) pa_nil)))) (pw_or1 (pt_val (pe_callB call_isi rfl B.isi bt_isi (pa_cons (pv 0) (pa_cons (pe_bltn (v := .ty "tuple") rfl B2.tuple bt_tuple rfl) pa_nil))))))) (pss_one (ps_set (i := 2) nd rfl (Or.inl rfl) (pe_cmpR (op_eqNil hu0) (pe_lc (own := [("step", 7)]) (g := gName 7) rfl nd (pi_list (pv 0)) (blkOk_by (N := NRight) (sc := defScope sRight) (by decide +kernel)) (fun _ _ _ _ _ => pg_name (i := 7) nd rfl (Or.inl rfl))
          (fun _ _ _ _ _ => pts_one (pt_not (pt_val (pe_call Is.g hr1 rfl Is.m Is.k Is.b .nil pass0 (pa_cons (pv 7) pa_nil))))) (fun _ _ _ _ _ => pv 7)) (pe_lst pa_nil) (nomark _)))) pss_nil)
    (pss_cons (ps_asg (pe_call To.g hr rfl To.m To.k To.b .nil pass0 (pa_cons (pv 0) pa_nil)) (pg_tup rfl (pgs_cons (pg_name (i := 3) nd rfl (Or.inl rfl)) (pgs_cons (pg_name (i := 4) nd rfl (Or.inl rfl)) pgs_nil))))
    (pss_cons (ps_if (PW.pt (pw_or (pt_cmpR op_ne (pe_cmpR op_isN (pv 4) pe_non (nomark _)) (pv 2) (nomark _)) (pw_or1 (pt_cmpR op_ne (pe_callB (call_reprG hgd hu) rfl B.repr boot_repr (pa_cons (pv 0) pa_nil)) (pv 1) (nomark _))))) (pss_one (ps_ret pe_bl)) pss_nil)
    (pss_cons (ps_if (pt_not (pt_val (pv 2))) (pss_cons (ps_if (pt_val (pe_callB call_isi rfl B.isi bt_isi (pa_cons (pv 0) (pa_cons (pe_bltn (v := .ty "list") rfl B.list bt_list rfl) pa_nil)))) (pss_one (ps_expr (pe_bm PySem.F.plainAttrs_list PySem.F.slot_list_append PySem.F.type_list_append mt_append (pv 0) (pa_cons pe_int pa_nil)))) pss_nil) (pss_one (ps_ret (pe_cmpR op_eq (pe_callB (call_reprG hgd hu) rfl B.repr boot_repr (pa_cons (pe_ix ix_list (pv 4) pe_int (fun _ _ => rfl)) pa_nil)) (pe_callB (call_reprG hgd hu) rfl B.repr boot_repr (pa_cons (pv 0) pa_nil)) (nomark _))))) pss_nil)
    (pss_cons (ps_set (i := 5) nd rfl (Or.inl rfl) (pe_callTy call_tuple_of rfl B2.tuple bt_tuple (pa_cons (pv 0) pa_nil)))
    (pss_cons (ps_for PassesOwn.never rfl (pi_range1 rfl B.range (pa_cons pe_int pa_nil)) (pg_name (i := 6) nd rfl (Or.inl rfl))
      (pss_cons (ps_if (PW.pt (pw_or (pt_cmpR op_ne (pe_callB (call_reprG hgd hu) rfl B.repr boot_repr (pa_cons (pe_fld (pv 3) rfl) pa_nil)) (pe_callB (call_reprG hgd hu) rfl B.repr boot_repr (pa_cons (pv 5) pa_nil)) (nomark _)) (pw_or (pt_cmpR op_ne (pe_fld (pv 3) rfl) (pe_call Gv.g hr1 rfl Gv.m Gv.k Gv.b .nil pass0 (pa_cons (pv 5) pa_nil)) (nomark _)) (pw_or1 (pt_cmpR op_ne (pe_fld (pv 3) rfl) (pe_call Ma.g hr1 rfl Ma.m Ma.k Ma.b .nil pass0 (pa_cons (pv 5) pa_nil)) (nomark _)))))) (pss_one (ps_ret pe_bl)) pss_nil)
      (pss_one (ps_if (pt_val (pe_callB call_isi rfl B.isi bt_isi (pa_cons (pv 0) (pa_cons (pe_bltn (v := .ty "list") rfl B.list bt_list rfl) pa_nil)))) (pss_one (ps_expr (pe_bm PySem.F.plainAttrs_list PySem.F.slot_list_append PySem.F.type_list_append mt_append (pv 0) (pa_cons (pe_tup (pa_cons pe_str (pa_cons pe_str pa_nil))) pa_nil)))) pss_nil))))
    (pss_one (ps_ret pe_bl)))))))), ?_⟩
    obtain ⟨l, ws, ds, rfl, hl, hd, le, it, q⟩ := h
    have lw := hd.length
    have hdl : DqAll H ws ds := hd.mono hd_le
    have sh := (rg_shw it (by omega)).1
    refine ⟨_, rfl, .ref l, .list ds, rfl, Rpr.of (.lst hl hdl), sh.s, sh.z, sh.d, _, _, rfl, ?_⟩
    refine ⟨_, rfl, .ref l, .ty "list", _, _, true, rfl, .ty _, .base (.lst hl), kit_ty kll, true, rfl, iteT ⟨_, rfl, l, rfl, ⟨_, SqL.of hl⟩, fun D hD => ?_⟩⟩
    refine lc_list (xs := ws) (fun i H' => Ex H H' ∧ ∃ acc, H' D = some (.lst acc) ∧ acc.length = (((ds.map stD).take i).filter (fun b => !b)).length ∧ acc.length ≤ i) ⟨Ex.new hD, [], upd_same, rfl, Nat.le_refl _⟩ (fun i H' _ p => SqL.of (p.1 _ _ hl)) (fun i x H' hx p => ?_) (fun H' p => ?_)
    · obtain ⟨p1, acc, p2, p3, p4⟩ := p
      obtain ⟨d, hdd, hq⟩ := hdl.get hx
      have hb : (ds.map stD)[i]? = some (stD d) := by rw [List.getElem?_map, hdd]; rfl
      refine ⟨rfl, _, rfl, x, d, rfl, hq.mono p1, (it d (List.mem_of_getElem? hdd)).f, fun H2 x2 => ⟨_, rfl, ?_⟩⟩
      have li := (List.getElem?_eq_some_iff.mp hx).1
      generalize stD d = b at hb ⊢
      cases b with
      | true =>
        refine iteF ⟨p1.trans x2, acc, x2 _ _ p2, ?_, by omega⟩
        rw [all_take hb, p3]
        simp
      | false =>
        have l1 : acc.length < sizeLine := by rw [sizeLine_eq]; omega
        refine iteT ⟨_, rfl, acc, x2 _ _ p2, l1, (p1.trans x2).mut hD, _, upd_same, ?_, by simp; omega⟩
        rw [all_take hb, List.length_append, List.length_append, p3]
        simp
    obtain ⟨p1, acc, p2, p3, p4⟩ := p
    refine ⟨nle' (by show 0 ≤ 1000; decide), fun l2 hl2 => ⟨D, l2, acc, rfl, rfl, (Ex.new hl2) _ _ p2, upd_same, ?_⟩⟩
    have e : acc.isEmpty = (ds.map stD).all id := by
      rw [lw, ← List.length_map (f := stD) (as := ds), List.take_length] at p3
      rw [← no_false]
      cases acc with
      | nil => cases hf : (ds.map stD).filter (fun b => !b) with
        | nil => rfl
        | cons y ys => rw [hf] at p3; simp at p3
      | cons z zs => cases hf : (ds.map stD).filter (fun b => !b) with
        | nil => rw [hf] at p3; simp at p3
        | cons y ys => rfl
    rw [e]
    have xA : Ex H (upd H' l2 (HO.lst [])) := p1.trans (Ex.new hl2)
    generalize upd H' l2 (HO.lst []) = H3 at xA ⊢
    have hl3 := xA _ _ hl
    have hd3 := hdl.mono xA
    have e2 : (ds.map stD).all id = ds.all stD := by rw [List.all_map]; rfl
    rw [e2]
    cases hb : ds.all stD with
    | false =>
      refine ⟨_, rfl, .ref l, rfl, .inr ⟨.inr ⟨l, ws, ds.map stD, rfl, .inl hl3, els_of hd3 it, by omega, by rw [e2]; exact hb⟩, fun r c H4 x4 hc hr2 => ⟨r, _, rfl, SqT.of hr2, rfl, _, _, rfl, _, _, rfl, rfl, ?_⟩⟩⟩
      have hl4 := x4 _ _ hl3
      have hd4 := hd3.mono x4
      refine ⟨_, rfl, rfl, _, rfl, rfl, _, rfl, iteF ⟨_, rfl, .ref l, .list ds, rfl, Rpr.of (.lst hl4 hd4), sh.s, sh.z, sh.d, _, rfl, rfl, _, rfl, iteNS rfl ?_⟩⟩
      refine ⟨_, rfl, _, rfl, iteT ⟨_, rfl, .ref l, .ty "list", _, _, true, rfl, .ty _, .base (.lst hl4), kit_ty kll, true, rfl, iteT ?_⟩⟩
      have nA := hd_app (xA.trans x4) hd (o := HO.lst (ws ++ [.int 0])) (d := .int 0) (v := .int 0) (.int 0)
      have hl5 : upd H4 l (HO.lst (ws ++ [.int 0])) l = some (.lst (ws ++ [.int 0])) := upd_same
      have cl : c ≠ l := fun z => by
        rw [z, hl4] at hc
        cases hc
        exact no_self hd
      have hc5 : upd H4 l (HO.lst (ws ++ [.int 0])) c = some (.lst [.ref l]) := by rw [upd_ne cl]; exact hc
      obtain ⟨ds2, hds⟩ : ∃ ds2 : List PyData, ds2 = ds ++ [PyData.int 0] := ⟨_, rfl⟩
      rw [← hds] at nA
      have sh2 : Shw (.list ds2) := by
        rw [hds]
        exact (rg_shw (fun d m => (List.mem_append.mp m).elim (it d) (fun m => by cases List.mem_singleton.mp m; exact itm_int0)) (by simp; omega)).1
      refine ⟨_, rfl, Or.inl ⟨rfl, _, SqL.of hl4⟩, l, ws, .int 0, rfl, rfl, hl4, by rw [sizeLine_eq]; omega, ?_⟩
      have x5 : Ex (Hd l H) (upd H4 l (HO.lst (ws ++ [.int 0]))) := hd_up1 (xA.trans x4)
      generalize upd H4 l (HO.lst (ws ++ [.int 0])) = H5 at nA hl5 hc5 x5 ⊢
      refine ⟨_, rfl, c, _, 0, .ref l, rfl, rfl, SqL.of hc5, atI_nat (j := 0) rfl, .ref l, .list ds2, rfl, Rpr.of (.lst hl5 nA), sh2.s, sh2.z, sh2.d, _, rfl, .ref l, .list ds2, rfl, Rpr.of (.lst hl5 nA), sh2.s, sh2.z, sh2.d, rfl, ?_⟩
      rw [decide_eq_true rfl]
      exact q H5 x5
    | true =>
      obtain ⟨es, rfl, ok⟩ := eds_of hb
      rw [List.length_map] at le
      refine ⟨_, rfl, .ref l, rfl, .inl ⟨l, ws, es, rfl, .inl hl3, hd3, ok, by omega, fun r x H4 x4 sc hr2 => ⟨r, _, rfl, SqT.of hr2, rfl, _, _, rfl, _, _, rfl, rfl, ?_⟩⟩⟩
      have hl4 := x4 _ _ hl3
      have hd4 := hd3.mono x4
      refine ⟨_, rfl, rfl, _, rfl, rfl, _, rfl, iteF ⟨_, rfl, .ref l, _, rfl, Rpr.of (.lst hl4 hd4), sh.s, sh.z, sh.d, _, rfl, rfl, _, rfl, iteNS rfl ?_⟩⟩
      refine ⟨_, rfl, _, rfl, iteF ?_⟩
      refine ⟨_, rfl, l, ws, rfl, .inl ⟨SqL.of hl4, fun k nk => ?_⟩⟩
      have hk5 : upd H4 k (HO.tup ws) k = some (.tup ws) := upd_same
      have x5 := Ex.new (o := HO.tup ws) nk
      generalize upd H4 k (HO.tup ws) = H5 at hk5 x5 ⊢
      have hl5 := x5 _ _ hl4
      have hd5 := hd_eds hl5 (hd4.mono x5)
      obtain ⟨dx, t, us, s1, s2, s3⟩ := sc.mono x5
      have s1 := hd_ins hl5 s1
      have s2 := hd_tup hl5 s2
      have s3 := hd_eds hl5 s3
      have k1 := hd_tup hl5 hk5
      have shT := (rg_shw it (by rw [List.length_map]; omega)).2
      have xB : Ex (Hd l H) (Hd l H5) := hdE ((xA.trans x4).trans x5)
      have lw2 : ws.length ≤ 91 := by rw [lw, List.length_map]; exact le
      refine ⟨2, rfl, by decide, by decide, for_range (lo := 0) (n := 2) (fun i σ H' => Ex (Hd l H5) H' ∧ (∃ wt, H' l = some (.lst wt) ∧ wt.length ≤ 91 + i) ∧ ∃ y6 y7, σ = [some (.ref l), some (.str (PyData.list (es.map edD)).shown), some (.bl true), some (.ref x), some .non, some (.ref k), y6, y7]) ⟨hd_le, ⟨ws, hl5, by omega⟩, none, none, rfl⟩ (fun i σ H6 hi p => ?_) (fun σ H6 p => ?_)⟩
      · obtain ⟨z1, ⟨wt, z2, z3⟩, y6, y7, rfl⟩ := p
        refine ⟨_, rfl, x, C, dx, _, _, rfl, z1 _ _ s1, T.cl, T.nS, sf_steps _ _ _, .ref t, .tuple (es.map edD), rfl, Rpr.of (.tup (z1 _ _ s2) (s3.mono z1)), shT.s, shT.z, shT.d, _, rfl, .ref k, .tuple (es.map edD), rfl, Rpr.of (.tup (z1 _ _ k1) (hd5.mono z1)), shT.s, shT.z, shT.d, rfl, _, rfl, iteNS rfl ?_⟩
        refine ⟨_, rfl, x, C, dx, _, _, rfl, z1 _ _ s1, T.cl, T.nG, sf_given _ _ _, _, rfl, k, ws, es, rfl, z1 _ _ k1, hd5.mono z1, by omega, fun H7 x7 => ⟨rfl, _, rfl, iteNS rfl ?_⟩⟩
        have z4 := z1.trans x7
        refine ⟨_, rfl, x, C, dx, _, _, rfl, z4 _ _ s1, T.cl, T.nM, sf_made _ _ _, _, rfl, k, ws, es, rfl, z4 _ _ k1, hd5.mono z4, by omega, fun H8 x8 => ⟨rfl, _, rfl, iteNS rfl ?_⟩⟩
        have z5 := z4.trans x8
        have z6 := x8 _ _ (x7 _ _ z2)
        refine ⟨_, rfl, .ref l, .ty "list", _, _, true, rfl, .ty _, .base (.lst z6), kit_ty kll, true, rfl, iteT ⟨_, rfl, Or.inl ⟨rfl, _, SqL.of z6⟩, nle' (by show 2 ≤ 1000; decide), fun tp ntp => ⟨l, wt, .ref tp, rfl, rfl, (Ex.new ntp) _ _ z6, by rw [sizeLine_eq]; omega, ?_⟩⟩⟩
        exact ⟨hd_up2 (z5.trans (Ex.new ntp)), ⟨_, upd_same, by simp; omega⟩, _, _, rfl⟩
      obtain ⟨z1, _, y6, y7, rfl⟩ := p
      exact q H6 (xB.trans z1)
  · refine ⟨_, pss_cons (ps_par (i := 1) (j := 2) rfl nd rfl rfl (by decide) rfl rfl (pa_cons (pe_callB (call_reprG hgd hu) rfl B.repr boot_repr (pa_cons (pv 0) pa_nil)) (pa_cons pe_bl pa_nil)) (by rfl))
    (pss_cons (ps_if (PW.pt (pw_or (pt_val (pe_callB call_isi rfl B.isi bt_isi (pa_cons (pv 0) (pa_cons (pe_bltn (v := .ty "list") rfl B.list bt_list rfl) pa_nil)))) (pw_or1 (pt_val (pe_callB call_isi rfl B.isi bt_isi (pa_cons (pv 0) (pa_cons (pe_bltn (v := .ty "tuple") rfl B2.tuple bt_tuple rfl) pa_nil))))))) (pss_one (ps_set (i := 2) nd rfl (Or.inl rfl) (pe_cmpR (op_eqNil hu0) (pe_lc (own := [("step", 7)]) (g := gName 7) rfl nd (pi_tup (pv 0)) (blkOk_by (N := NRight) (sc := defScope sRight) (by decide +kernel)) (fun _ _ _ _ _ => pg_name (i := 7) nd rfl (Or.inl rfl))
          (fun _ _ _ _ _ => pts_one (pt_not (pt_val (pe_call Is.g hr1 rfl Is.m Is.k Is.b .nil pass0 (pa_cons (pv 7) pa_nil))))) (fun _ _ _ _ _ => pv 7)) (pe_lst pa_nil) (nomark _)))) pss_nil)
    (pss_cons (ps_asg (pe_call To.g hr rfl To.m To.k To.b .nil pass0 (pa_cons (pv 0) pa_nil)) (pg_tup rfl (pgs_cons (pg_name (i := 3) nd rfl (Or.inl rfl)) (pgs_cons (pg_name (i := 4) nd rfl (Or.inl rfl)) pgs_nil))))
    (pss_cons (ps_if (PW.pt (pw_or (pt_cmpR op_ne (pe_cmpR op_isN (pv 4) pe_non (nomark _)) (pv 2) (nomark _)) (pw_or1 (pt_cmpR op_ne (pe_callB (call_reprG hgd hu) rfl B.repr boot_repr (pa_cons (pv 0) pa_nil)) (pv 1) (nomark _))))) (pss_one (ps_ret pe_bl)) pss_nil)
    (pss_cons (ps_if (pt_not (pt_val (pv 2))) (pss_cons (ps_if (pt_val (pe_callB call_isi rfl B.isi bt_isi (pa_cons (pv 0) (pa_cons (pe_bltn (v := .ty "list") rfl B.list bt_list rfl) pa_nil)))) (pss_one (ps_expr (pe_bm PySem.F.plainAttrs_list PySem.F.slot_list_append PySem.F.type_list_append mt_append (pv 0) (pa_cons pe_int pa_nil)))) pss_nil) (pss_one (ps_ret (pe_cmpR op_eq (pe_callB (call_reprG hgd hu) rfl B.repr boot_repr (pa_cons (pe_ix ix_list (pv 4) pe_int (fun _ _ => rfl)) pa_nil)) (pe_callB (call_reprG hgd hu) rfl B.repr boot_repr (pa_cons (pv 0) pa_nil)) (nomark _))))) pss_nil)
    (pss_cons (ps_set (i := 5) nd rfl (Or.inl rfl) (pe_callTy call_tuple_of rfl B2.tuple bt_tuple (pa_cons (pv 0) pa_nil)))
    (pss_cons (ps_for PassesOwn.never rfl (pi_range1 rfl B.range (pa_cons pe_int pa_nil)) (pg_name (i := 6) nd rfl (Or.inl rfl))
      (pss_cons (ps_if (PW.pt (pw_or (pt_cmpR op_ne (pe_callB (call_reprG hgd hu) rfl B.repr boot_repr (pa_cons (pe_fld (pv 3) rfl) pa_nil)) (pe_callB (call_reprG hgd hu) rfl B.repr boot_repr (pa_cons (pv 5) pa_nil)) (nomark _)) (pw_or (pt_cmpR op_ne (pe_fld (pv 3) rfl) (pe_call Gv.g hr1 rfl Gv.m Gv.k Gv.b .nil pass0 (pa_cons (pv 5) pa_nil)) (nomark _)) (pw_or1 (pt_cmpR op_ne (pe_fld (pv 3) rfl) (pe_call Ma.g hr1 rfl Ma.m Ma.k Ma.b .nil pass0 (pa_cons (pv 5) pa_nil)) (nomark _)))))) (pss_one (ps_ret pe_bl)) pss_nil)
      (pss_one (ps_if (pt_val (pe_callB call_isi rfl B.isi bt_isi (pa_cons (pv 0) (pa_cons (pe_bltn (v := .ty "list") rfl B.list bt_list rfl) pa_nil)))) (pss_one (ps_expr (pe_bm PySem.F.plainAttrs_list PySem.F.slot_list_append PySem.F.type_list_append mt_append (pv 0) (pa_cons (pe_tup (pa_cons pe_str (pa_cons pe_str pa_nil))) pa_nil)))) pss_nil))))
    (pss_one (ps_ret pe_bl)))))))), ?_⟩
    obtain ⟨l, ws, ds, rfl, hl, hd, le, it, q⟩ := h
    have lw := hd.length
    have hdl := hd
    have sh := (rg_shw it (by omega)).2
    refine ⟨_, rfl, .ref l, .tuple ds, rfl, Rpr.of (.tup hl hdl), sh.s, sh.z, sh.d, _, _, rfl, ?_⟩
    refine ⟨_, rfl, .ref l, .ty "list", _, _, false, rfl, .ty _, .base (.tup hl), kit_ty ktl, false, rfl, iteF ⟨_, rfl, .ref l, .ty "tuple", _, _, true, rfl, .ty _, .base (.tup hl), kit_ty ktt, true, rfl, iteT ⟨_, rfl, l, rfl, ⟨_, SqT.of hl⟩, fun D hD => ?_⟩⟩⟩
    refine lc_tup (xs := ws) (fun i H' => Ex H H' ∧ ∃ acc, H' D = some (.lst acc) ∧ acc.length = (((ds.map stD).take i).filter (fun b => !b)).length ∧ acc.length ≤ i) ⟨Ex.new hD, [], upd_same, rfl, Nat.le_refl _⟩ (fun i H' _ p => SqT.of (p.1 _ _ hl)) (fun i x H' hx p => ?_) (fun H' p => ?_)
    · obtain ⟨p1, acc, p2, p3, p4⟩ := p
      obtain ⟨d, hdd, hq⟩ := hdl.get hx
      have hb : (ds.map stD)[i]? = some (stD d) := by rw [List.getElem?_map, hdd]; rfl
      refine ⟨rfl, _, rfl, x, d, rfl, hq.mono p1, (it d (List.mem_of_getElem? hdd)).f, fun H2 x2 => ⟨_, rfl, ?_⟩⟩
      have li := (List.getElem?_eq_some_iff.mp hx).1
      generalize stD d = b at hb ⊢
      cases b with
      | true =>
        refine iteF ⟨p1.trans x2, acc, x2 _ _ p2, ?_, by omega⟩
        rw [all_take hb, p3]
        simp
      | false =>
        have l1 : acc.length < sizeLine := by rw [sizeLine_eq]; omega
        refine iteT ⟨_, rfl, acc, x2 _ _ p2, l1, (p1.trans x2).mut hD, _, upd_same, ?_, by simp; omega⟩
        rw [all_take hb, List.length_append, List.length_append, p3]
        simp
    obtain ⟨p1, acc, p2, p3, p4⟩ := p
    refine ⟨nle' (by show 0 ≤ 1000; decide), fun l2 hl2 => ⟨D, l2, acc, rfl, rfl, (Ex.new hl2) _ _ p2, upd_same, ?_⟩⟩
    have e : acc.isEmpty = (ds.map stD).all id := by
      rw [lw, ← List.length_map (f := stD) (as := ds), List.take_length] at p3
      rw [← no_false]
      cases acc with
      | nil => cases hf : (ds.map stD).filter (fun b => !b) with
        | nil => rfl
        | cons y ys => rw [hf] at p3; simp at p3
      | cons z zs => cases hf : (ds.map stD).filter (fun b => !b) with
        | nil => rw [hf] at p3; simp at p3
        | cons y ys => rfl
    rw [e]
    have xA : Ex H (upd H' l2 (HO.lst [])) := p1.trans (Ex.new hl2)
    generalize upd H' l2 (HO.lst []) = H3 at xA ⊢
    have hl3 := xA _ _ hl
    have hd3 := hdl.mono xA
    have e2 : (ds.map stD).all id = ds.all stD := by rw [List.all_map]; rfl
    rw [e2]
    cases hb : ds.all stD with
    | false =>
      refine ⟨_, rfl, .ref l, rfl, .inr ⟨.inr ⟨l, ws, ds.map stD, rfl, .inr hl3, els_of hd3 it, by omega, by rw [e2]; exact hb⟩, fun r c H4 x4 hc hr2 => ⟨r, _, rfl, SqT.of hr2, rfl, _, _, rfl, _, _, rfl, rfl, ?_⟩⟩⟩
      have hl4 := x4 _ _ hl3
      have hd4 := hd3.mono x4
      refine ⟨_, rfl, rfl, _, rfl, rfl, _, rfl, iteF ⟨_, rfl, .ref l, .tuple ds, rfl, Rpr.of (.tup hl4 hd4), sh.s, sh.z, sh.d, _, rfl, rfl, _, rfl, iteNS rfl ?_⟩⟩
      refine ⟨_, rfl, _, rfl, iteT ⟨_, rfl, .ref l, .ty "list", _, _, false, rfl, .ty _, .base (.tup hl4), kit_ty ktl, false, rfl, iteF ?_⟩⟩
      refine ⟨_, rfl, c, _, 0, .ref l, rfl, rfl, SqL.of hc, atI_nat (j := 0) rfl, .ref l, .tuple ds, rfl, Rpr.of (.tup hl4 hd4), sh.s, sh.z, sh.d, _, rfl, .ref l, .tuple ds, rfl, Rpr.of (.tup hl4 hd4), sh.s, sh.z, sh.d, rfl, ?_⟩
      rw [decide_eq_true rfl]
      exact q H4 (xA.trans x4)
    | true =>
      obtain ⟨es, rfl, ok⟩ := eds_of hb
      rw [List.length_map] at le
      refine ⟨_, rfl, .ref l, rfl, .inl ⟨l, ws, es, rfl, .inr hl3, hd3, ok, by omega, fun r x H4 x4 sc hr2 => ⟨r, _, rfl, SqT.of hr2, rfl, _, _, rfl, _, _, rfl, rfl, ?_⟩⟩⟩
      have hl4 := x4 _ _ hl3
      have hd4 := hd3.mono x4
      refine ⟨_, rfl, rfl, _, rfl, rfl, _, rfl, iteF ⟨_, rfl, .ref l, _, rfl, Rpr.of (.tup hl4 hd4), sh.s, sh.z, sh.d, _, rfl, rfl, _, rfl, iteNS rfl ?_⟩⟩
      refine ⟨_, rfl, _, rfl, iteF ?_⟩
      refine ⟨_, rfl, l, ws, rfl, .inr ⟨SqT.of hl4, ?_⟩⟩
      obtain ⟨dx, t, us, s1, s2, s3⟩ := sc
      have lw2 : ws.length ≤ 91 := by rw [lw, List.length_map]; exact le
      refine ⟨2, rfl, by decide, by decide, for_range (lo := 0) (n := 2) (fun i σ H' => Ex H4 H' ∧ ∃ y6 y7, σ = [some (.ref l), some (.str (PyData.tuple (es.map edD)).shown), some (.bl true), some (.ref x), some .non, some (.ref l), y6, y7]) ⟨Ex.refl _, none, none, rfl⟩ (fun i σ H6 hi p => ?_) (fun σ H6 p => ?_)⟩
      · obtain ⟨z1, y6, y7, rfl⟩ := p
        refine ⟨_, rfl, x, C, dx, _, _, rfl, z1 _ _ s1, T.cl, T.nS, sf_steps _ _ _, .ref t, .tuple (es.map edD), rfl, Rpr.of (.tup (z1 _ _ s2) (s3.mono z1)), sh.s, sh.z, sh.d, _, rfl, .ref l, .tuple (es.map edD), rfl, Rpr.of (.tup (z1 _ _ hl4) (hd4.mono z1)), sh.s, sh.z, sh.d, rfl, _, rfl, iteNS rfl ?_⟩
        refine ⟨_, rfl, x, C, dx, _, _, rfl, z1 _ _ s1, T.cl, T.nG, sf_given _ _ _, _, rfl, l, ws, es, rfl, z1 _ _ hl4, hd4.mono z1, by omega, fun H7 x7 => ⟨rfl, _, rfl, iteNS rfl ?_⟩⟩
        have z4 := z1.trans x7
        refine ⟨_, rfl, x, C, dx, _, _, rfl, z4 _ _ s1, T.cl, T.nM, sf_made _ _ _, _, rfl, l, ws, es, rfl, z4 _ _ hl4, hd4.mono z4, by omega, fun H8 x8 => ⟨rfl, _, rfl, iteNS rfl ?_⟩⟩
        have z5 := z4.trans x8
        refine ⟨_, rfl, .ref l, .ty "list", _, _, false, rfl, .ty _, .base (.tup (z5 _ _ hl4)), kit_ty ktl, false, rfl, iteF ?_⟩
        exact ⟨z5, _, _, rfl⟩
      obtain ⟨z1, y6, y7, rfl⟩ := p
      exact q H6 ((xA.trans x4).trans z1)
  · refine ⟨_, pss_cons (ps_par (i := 1) (j := 2) rfl nd rfl rfl (by decide) rfl rfl (pa_cons (pe_callB (call_reprG hgd hu) rfl B.repr boot_repr (pa_cons (pv 0) pa_nil)) (pa_cons pe_bl pa_nil)) (by rfl))
    (pss_cons (ps_if (PW.pt (pw_or (pt_val (pe_callB call_isi rfl B.isi bt_isi (pa_cons (pv 0) (pa_cons (pe_bltn (v := .ty "list") rfl B.list bt_list rfl) pa_nil)))) (pw_or1 (pt_val (pe_callB call_isi rfl B.isi bt_isi (pa_cons (pv 0) (pa_cons (pe_bltn (v := .ty "tuple") rfl B2.tuple bt_tuple rfl) pa_nil))))))) (pss_one ps_never) pss_nil)
    (pss_cons (ps_asg (pe_call To.g hr rfl To.m To.k To.b .nil pass0 (pa_cons (pv 0) pa_nil)) (pg_tup rfl (pgs_cons (pg_name (i := 3) nd rfl (Or.inl rfl)) (pgs_cons (pg_name (i := 4) nd rfl (Or.inl rfl)) pgs_nil))))
    (pss_cons (ps_if (PW.pt (pw_or (pt_cmpR op_ne (pe_cmpR op_isN (pv 4) pe_non (nomark _)) (pv 2) (nomark _)) (pw_or1 (pt_cmpR op_ne (pe_callB (call_reprG hgd hu) rfl B.repr boot_repr (pa_cons (pv 0) pa_nil)) (pv 1) (nomark _))))) (pss_one (ps_ret pe_bl)) pss_nil)
    (pss_cons (ps_if (pt_not (pt_val (pv 2))) (pss_cons (ps_if (pt_val (pe_callB call_isi rfl B.isi bt_isi (pa_cons (pv 0) (pa_cons (pe_bltn (v := .ty "list") rfl B.list bt_list rfl) pa_nil)))) (pss_one (ps_expr (pe_bm PySem.F.plainAttrs_list PySem.F.slot_list_append PySem.F.type_list_append mt_append (pv 0) (pa_cons pe_int pa_nil)))) pss_nil) (pss_one (ps_ret (pe_cmpR op_eq (pe_callB (call_reprG hgd hu) rfl B.repr boot_repr (pa_cons (pe_ix ix_list (pv 4) pe_int (fun _ _ => rfl)) pa_nil)) (pe_callB (call_reprG hgd hu) rfl B.repr boot_repr (pa_cons (pv 0) pa_nil)) (nomark _))))) pss_nil)
    (pss_cons ps_never (pss_cons ps_never (pss_one ps_never))))))), ?_⟩
    obtain ⟨v, t, d, rfl, ht, hk, hp, sh, q⟩ := h
    have k1 : PySem.W.kitOne K t (.type "list") = some false := kitA1 hk
    have k2 : PySem.W.kitOne K t (.type "tuple") = some false := kitA2 hk
    refine ⟨_, rfl, v, d, rfl, hp _ (Ex.refl _), sh.s, sh.z, sh.d, _, _, rfl, ?_⟩
    refine ⟨_, rfl, v, .ty "list", t, _, false, rfl, .ty _, ht _ (Ex.refl _), k1, false, rfl, iteF ⟨_, rfl, v, .ty "tuple", t, _, false, rfl, .ty _, ht _ (Ex.refl _), k2, false, rfl, iteF ?_⟩⟩
    refine ⟨_, rfl, v, rfl, .inr ⟨.inl ⟨t, ht, hk⟩, fun r c H2 x2 hc hr2 => ⟨r, _, rfl, SqT.of hr2, rfl, _, _, rfl, _, _, rfl, rfl, ?_⟩⟩⟩
    refine ⟨_, rfl, rfl, _, rfl, rfl, _, rfl, iteF ⟨_, rfl, v, d, rfl, hp _ x2, sh.s, sh.z, sh.d, _, rfl, rfl, _, rfl, iteNS rfl ?_⟩⟩
    refine ⟨_, rfl, _, rfl, iteT ⟨_, rfl, v, .ty "list", t, _, false, rfl, .ty _, ht _ x2, k1, false, rfl, iteF ?_⟩⟩
    refine ⟨_, rfl, c, _, 0, v, rfl, rfl, SqL.of hc, atI_nat (j := 0) rfl, v, d, rfl, hp _ x2, sh.s, sh.z, sh.d, _, rfl, v, d, rfl, hp _ x2, sh.s, sh.z, sh.d, rfl, ?_⟩
    rw [decide_eq_true rfl]
    exact q H2 x2
end
end Sk

/-! dict(..) of a tuple of no pair, of one pair. -/
namespace Sk
open PySem PySem.Spec PyProof.Rows L2 Evl
/-- a tuple, and no more -/
def Tq (H : Hp) (a : Addr) (xs : List V) : Prop := ∃ o : Obj, o.dict = none ∧ H a = some (.frz o (.tup xs))
theorem one_at {h : Heap} {b : Addr} {u2 u3 k v : Value} {j : Nat} (e : ([(u2, u3)] : List (Value × Value))[j]? = some (k, v)) (p : (#[Value.ref b] : Array Value)[0]? = some (.ref b) ∧ PairAt h b u2 u3) : (#[Value.ref b] : Array Value)[j]? = some (.ref b) ∧ PairAt h b k v := by
  cases j with
  | zero => cases e; exact p
  | succ j => simp at e
theorem one_at2 {knd : L2.Key → Value → Bool} {z : L2.Key} {u2 u3 k v : Value} {j : Nat} (e : ([(u2, u3)] : List (Value × Value))[j]? = some (k, v)) (p : ∃ y, ([(z, u3)] : List (L2.Key × Value))[0]? = some (y, u3) ∧ knd y u2 = true) : ∃ y, ([(z, u3)] : List (L2.Key × Value))[j]? = some (y, v) ∧ knd y k = true := by
  cases j with
  | zero => cases e; exact p
  | succ j => simp at e
theorem call_dictT {X : Cx} (hcalm : X.calm = true) : CallR X (.type "dict") (fun xs H Q => ∃ a, xs = [.ref a] ∧ ((Tq H a [] ∧ ∀ p, H p = none → Q (.ref p) (upd H p (.dK []))) ∨
    ∃ b z y, Tq H a [.ref b] ∧ SqT X.K H b [.str z, y] ∧ ∀ p, H p = none → Q (.ref p) (upd H p (.dK [(.inr z, y)])))) := by
  intro pins s σ H xs us Q I r q
  obtain ⟨a, rfl, q⟩ := q
  obtain ⟨u, rfl, rx⟩ := vals1 r
  cases (show u = Value.ref a from rx)
  have hm : (s.heap.objs.size == sysModules) = false := beq_eq_false_iff_ne.mpr (Nat.ne_of_gt I.big)
  have fin : ∀ {kvs : List (L2.Key × V)} {vs : List (L2.Key × Value)} {h' : Heap} {tk : Nat}, kvs.length ≤ 1 → KV kvs vs → h'.DictOf (mixKind X.prog X.w) s.heap.objs.size vs → (∀ b o, b ∉ ([] : List Addr) → s.heap.get? b = some o → h'.get? b = some o) →
      (∀ p, H p = none → Q (.ref p) (upd H p (.dK kvs))) → EP X pins σ Q (.ref s.heap.objs.size) { s with heap := h', toks := tk } := fun l k d e q =>
    ⟨.ref s.heap.objs.size, _, I.laid (fun b o z => e b o (fun m => nomatch m) z) (Nat.le_refl _) (show ObjOk X.prog X.w _ _ _ (.dK _) from ⟨Nat.le_trans l (by decide), hm, _, k, d⟩), rfl, q _ (I.hok.fresh (Nat.le_refl _))⟩
  rcases q with ⟨ha, q⟩ | ⟨b, z, y, ha, hb, q⟩
  · obtain ⟨o, hd, e0⟩ := ha
    obtain ⟨g, hz, its, rv, o', g', c, n, dt⟩ := (show ObjOk X.prog X.w H s.heap a (.frz o (.tup [])) from I.hok _ _ e0)
    cases rv
    rw [g] at g'
    cases g'
    exact PySem.call_dict_pairs (knd := mixKind X.prog X.w) (kvs := []) (PairArg.tuple a #[] (fun _ => a) []) (I.ok.hd hcalm) ⟨⟨o, n, g, c, hd, dt⟩, rfl, fun j k v e => by cases j <;> cases e⟩ ⟨rfl, fun i k v e => by cases i <;> cases e⟩ (Nat.zero_le _) fun h' tk d e => fin (Nat.zero_le _) .nil d e q
  · obtain ⟨o, hd, e0⟩ := ha
    obtain ⟨g, hz, its, rv, o', g', c, n, dt⟩ := (show ObjOk X.prog X.w H s.heap a (.frz o (.tup [.ref b])) from I.hok _ _ e0)
    obtain ⟨ib, rb, pb, hzb⟩ := I.tuple hb
    obtain ⟨u1, rfl, h1⟩ := vals1 rv
    obtain ⟨u2, u3, rfl, h2, h3⟩ := vals2 rb
    cases (show u1 = Value.ref b from h1)
    rw [g] at g'
    cases g'
    exact PySem.call_dict_pairs (knd := mixKind X.prog X.w) (kvs := [(.inr z, u3)]) (PairArg.tuple a #[.ref b] (fun _ => b) [(u2, u3)]) (I.ok.hd hcalm) ⟨⟨o, n, g, c, hd, dt⟩, rfl, fun j k v e => one_at e ⟨rfl, .inl pb⟩⟩ ⟨rfl, fun i k v e => one_at2 e ⟨.inr z, rfl, kV_is (k := .inr z) h2⟩⟩ (Nat.le_trans (show 1 ≤ 16000000 by decide) (by decide)) fun h' tk d e => fin (Nat.le_refl _) (.cons ⟨rfl, h3⟩ .nil) d e q
end Sk

/-! tuple(xs) of a list: a tuple of which it is known that it has no dict of its own. -/
namespace Sk
open PySem PySem.Spec PyProof.Rows L2 Evl
theorem Tq.mono {H H' : Hp} {a : Addr} {xs : List V} (x : Ex H H') (h : Tq H a xs) : Tq H' a xs := let ⟨o, d, e⟩ := h; ⟨o, d, x _ _ e⟩
theorem Tq.sq {K : PySem.W.Frag} {H : Hp} {a : Addr} {xs : List V} (h : Tq H a xs) : SqT K H a xs := let ⟨o, _, e⟩ := h; .inl (.inr ⟨o, e⟩)
theorem call_tupleF {X : Cx} : CallR X (.type "tuple") (fun xs H Q => ∃ p ys, xs = [.ref p] ∧ SqL X.K H p ys ∧ ∀ l o, H l = none → Obj.dict o = none → Q (.ref l) (upd H l (.frz o (.tup ys)))) := by
  intro pins s σ H xs us Q I r h
  obtain ⟨p, ys, rfl, hq, q⟩ := h
  obtain ⟨u, rfl, rx⟩ := vals1 r
  cases (show u = Value.ref p from rx)
  obtain ⟨its, r1, pl, hz⟩ := I.list hq
  have hlen := r1.length
  refine call_tuple_list pl.isList (fun h' kp => ?_) (by simp only [List.size_toArray]; omega)
  have I1 : Inv X pins σ H { s with heap := h' } := I.kept (t' := s.toks) kp
  have I2 := I1.laid (a := h'.objs.size) (o := .frz { cls := .type "tuple", data := .seq its.toArray } (.tup ys)) (h' := h'.push { cls := .type "tuple", data := .seq its.toArray }) (t' := s.toks) (fun b o e => Heap.get?_push_of_some _ e) (Nat.le_refl _)
    (show ObjOk X.prog X.w _ _ _ (.frz _ (.tup ys)) from ⟨Heap.get?_push_size _ rfl, hz, its, r1, IsTup.new _ _⟩)
  exact ⟨.ref h'.objs.size, _, I2, rfl, q _ _ (I1.hok.fresh (Nat.le_refl _)) rfl⟩
end Sk

/-! Loops taken turn by turn; the objects that a def has made, one by one. -/
namespace Sk
open PySem PySem.Spec PyProof.Rows L2 Evl
def Un (c : TT) (tb : TS) (D : Ends) : Nat → L2.St → Hp → Prop
  | 0 => fun σ H => c σ H fun b H1 => b = false ∧ D.nx σ H1
  | n + 1 => fun σ H => c σ H fun b H1 => if b = true then tb { D with nx := Un c tb D n, ct := Un c tb D n, bk := D.nx } σ H1 else D.nx σ H1
theorem while_n {c : TT} {tb : TS} {D : Ends} {σ : L2.St} {H : Hp} (mono : ∀ σ H Q Q', (∀ b H1, Q b H1 → Q' b H1) → c σ H Q → c σ H Q') (n : Nat) (h : Un c tb D n σ H) : tWhile c tb D σ H := by
  refine ⟨fun m σ H => Un c tb D m σ H, ⟨n, h⟩, fun m σ H h => ?_⟩
  cases m with
  | zero => exact mono _ _ _ _ (fun b H1 q => by obtain ⟨rfl, q⟩ := q; exact iteF q) h
  | succ m => exact mono _ _ _ _ (fun b H1 q => by
      cases b with
      | true => exact iteT ⟨Un c tb D m, fun _ _ z => ⟨m, Nat.lt_succ_self m, z⟩, by simpa using q⟩
      | false => exact iteF (by simpa using q)) h
def Fl (sq : Hp → Prop) (g : TG) (tb : TS) (D : Ends) : List V → L2.St → Hp → Prop
  | [] => fun σ H => sq H ∧ D.nx σ H
  | x :: xs => fun σ H => sq H ∧ g x σ H fun σ2 H2 => tb { D with nx := Fl sq g tb D xs, ct := Fl sq g tb D xs, bk := D.nx } σ2 H2
theorem Fl.sq {sq : Hp → Prop} {g : TG} {tb : TS} {D : Ends} {xs : List V} {σ : L2.St} {H : Hp} (h : Fl sq g tb D xs σ H) : sq H := by
  cases xs with
  | nil => exact h.1
  | cons x xs => exact h.1
theorem drop_at {xs : List V} {i : Nat} {x : V} (h : xs[i]? = some x) : xs.drop i = x :: xs.drop (i + 1) := by
  obtain ⟨hi, e⟩ := List.getElem?_eq_some_iff.mp h
  rw [List.drop_eq_getElem_cons hi, e]
theorem for_listU {K : PySem.W.Frag} {a : Addr} {xs : List V} {g : TG} {tb : TS} {D : Ends} {σ : L2.St} {H : Hp} (h : Fl (fun H => SqL K H a xs) g tb D xs σ H) :
    ∃ W : Nat → Nat → L2.St → Hp → Prop, (∃ m, W 0 m σ H) ∧ ∀ i m σ H, W i m σ H → ((Itl K a).stop i H ∧ D.nx σ H) ∨ ((Itl K a).go i H ∧ ∃ N : L2.St → Hp → Prop, (∀ σ' H', N σ' H' → ∃ m', m' < m ∧ W (i + 1) m' σ' H') ∧ ∀ x H', (Itl K a).yld i H x H' → g x σ H' fun σ2 H2 => tb { D with nx := N, ct := N, bk := D.nx } σ2 H2) :=
  for_list (xs := xs) (fun i σ H => Fl (fun H => SqL K H a xs) g tb D (xs.drop i) σ H) h (fun i σ H _ p => p.sq) (fun i x σ H e p => by rw [drop_at e] at p; exact p.2) (fun σ H p => by rw [List.drop_length] at p; exact p.2)
theorem for_tupU {K : PySem.W.Frag} {a : Addr} {xs : List V} {g : TG} {tb : TS} {D : Ends} {σ : L2.St} {H : Hp} (h : Fl (fun H => SqT K H a xs) g tb D xs σ H) :
    ∃ W : Nat → Nat → L2.St → Hp → Prop, (∃ m, W 0 m σ H) ∧ ∀ i m σ H, W i m σ H → ((Itt K a).stop i H ∧ D.nx σ H) ∨ ((Itt K a).go i H ∧ ∃ N : L2.St → Hp → Prop, (∀ σ' H', N σ' H' → ∃ m', m' < m ∧ W (i + 1) m' σ' H') ∧ ∀ x H', (Itt K a).yld i H x H' → g x σ H' fun σ2 H2 => tb { D with nx := N, ct := N, bk := D.nx } σ2 H2) :=
  for_tup (xs := xs) (fun i σ H => Fl (fun H => SqT K H a xs) g tb D (xs.drop i) σ H) h (fun i σ H _ p => p.sq) (fun i x σ H e p => by rw [drop_at e] at p; exact p.2) (fun σ H p => by rw [List.drop_length] at p; exact p.2)
/-! ### what is sure of more is sure of less -/
def MonE (te : TE) : Prop := ∀ σ H (Q Q' : VK), (∀ v H1, Q v H1 → Q' v H1) → te σ H Q → te σ H Q'
theorem mon_var {i : Nat} : MonE (tVar i) := fun σ H Q Q' k ⟨v, e, q⟩ => ⟨v, e, k _ _ q⟩
theorem mon_c {v : V} : MonE (tC v) := fun σ H Q Q' k q => k _ _ q
theorem mon_len {K : PySem.W.Frag} {te : TE} (h : MonE te) : MonE (tCB (fun xs H Q => ∃ p ys, xs = [V.ref p] ∧ (SqL K H p ys ∨ SqT K H p ys) ∧ Q (.int ((ys.length : Nat) : Int)) H) (tCons te tNil)) :=
  fun σ H Q Q' k q => h σ H _ _ (fun v H1 ⟨p, ys, e, s, z⟩ => ⟨p, ys, e, s, k _ _ z⟩) q
theorem mon_op {r : R2} {ta tb : TE} (hr : ∀ x y H (Q Q' : VK), (∀ v H1, Q v H1 → Q' v H1) → r x y H Q → r x y H Q') (ha : MonE ta) (hb : MonE tb) : MonE (tOp r ta tb) := fun σ H Q Q' k q => ha σ H _ _ (fun x H1 z => hb σ H1 _ _ (fun y H2 w => hr x y H2 _ _ k w) z) q
theorem mon_I0 {f : Int → Int → V} : ∀ x y H (Q Q' : VK), (∀ v H1, Q v H1 → Q' v H1) → rI0 f x y H Q → rI0 f x y H Q' := fun x y H Q Q' k ⟨i, j, e1, e2, q⟩ => ⟨i, j, e1, e2, k _ _ q⟩
theorem mon_test {te : TE} (h : MonE te) : ∀ σ H (Q Q' : Bool → Hp → Prop), (∀ b H1, Q b H1 → Q' b H1) → tTest te σ H Q → tTest te σ H Q' := fun σ H Q Q' k q => h σ H _ _ (fun v H1 ⟨b, e, z⟩ => ⟨b, e, k _ _ z⟩) q
theorem ex_none' {H H1 : Hp} {a : Addr} (x : Ex H H1) (h : H1 a = none) : H a = none := by
  cases e : H a with
  | none => rfl
  | some o => rw [x _ _ e] at h; cases h
theorem set_same {xs : List Addr} {i : Nat} {a : Addr} (h : xs[i]? = some a) : xs.set i a = xs := by
  refine List.ext_getElem? fun j => ?_
  rw [List.getElem?_set]
  by_cases z : i = j
  · subst z
    rw [if_pos rfl, if_pos (List.getElem?_eq_some_iff.mp h).1, h]
  · rw [if_neg z]
theorem nodup_at {xs : List Addr} (n : xs.Nodup) {i j : Nat} {a : Addr} (h : xs[i]? = some a) (h2 : xs[j]? = some a) : i = j := by
  obtain ⟨hi, e⟩ := List.getElem?_eq_some_iff.mp h
  obtain ⟨hj, e2⟩ := List.getElem?_eq_some_iff.mp h2
  exact (List.getElem_inj n).mp (e.trans e2.symm)
/-! ### the objects of one's own -/
structure Lv (H0 H : Hp) (l : List (Addr × HO)) : Prop where
  nd : (l.map (·.1)).Nodup
  at_ : ∀ p ∈ l, H p.1 = some p.2
  off : ∀ p ∈ l, H0 p.1 = none
  ex : Ex H0 H
theorem Lv.nil {H0 H : Hp} (x : Ex H0 H) : Lv H0 H [] := ⟨List.nodup_nil, (fun _ m => nomatch m), (fun _ m => nomatch m), x⟩
theorem Lv.get {H0 H : Hp} {l : List (Addr × HO)} (L : Lv H0 H l) (i : Nat) {a : Addr} {o : HO} (h : l[i]? = some (a, o)) : H a = some o := L.at_ _ (List.mem_of_getElem? h)
theorem Lv.new {H0 H : Hp} {l : List (Addr × HO)} (L : Lv H0 H l) {a : Addr} {o : HO} (n : H a = none) : Lv H0 (upd H a o) ((a, o) :: l) := by
  refine ⟨?_, ?_, ?_, L.ex.trans (Ex.new n)⟩
  · rw [List.map_cons, List.nodup_cons]
    refine ⟨fun m => ?_, L.nd⟩
    obtain ⟨p, hp, e⟩ := List.mem_map.mp m
    have := L.at_ p hp
    rw [e, n] at this
    cases this
  · intro p m
    rcases List.mem_cons.mp m with rfl | m
    · exact upd_same
    · exact (Ex.new n) _ _ (L.at_ p m)
  · intro p m
    rcases List.mem_cons.mp m with rfl | m
    · exact ex_none' L.ex n
    · exact L.off p m
theorem Lv.mut {H0 H : Hp} {l : List (Addr × HO)} (L : Lv H0 H l) (i : Nat) {a : Addr} {o : HO} (o' : HO) (h : l[i]? = some (a, o)) : Lv H0 (upd H a o') (l.set i (a, o')) := by
  obtain ⟨hi, e⟩ := List.getElem?_eq_some_iff.mp h
  have m0 : (a, o) ∈ l := List.mem_of_getElem? h
  have hk : (l.set i (a, o')).map (·.1) = l.map (·.1) := by
    rw [List.map_set]
    have : (l.map (·.1))[i]? = some a := by rw [List.getElem?_map, h]; rfl
    exact set_same this
  refine ⟨by rw [hk]; exact L.nd, ?_, ?_, fun b u eb => ?_⟩
  · intro p m
    obtain ⟨j, hj⟩ := List.mem_iff_getElem?.mp m
    rw [List.getElem?_set] at hj
    by_cases z : i = j
    · subst z
      rw [if_pos rfl, if_pos hi] at hj
      cases hj
      exact upd_same
    · rw [if_neg z] at hj
      have np : p.1 ≠ a := fun w => by
        have h1 : (l.map (·.1))[j]? = some a := by rw [List.getElem?_map, hj, ← w]; rfl
        have h2 : (l.map (·.1))[i]? = some a := by rw [List.getElem?_map, h]; rfl
        exact z (nodup_at L.nd h2 h1)
      rw [upd_ne np]
      exact L.at_ p (List.mem_of_getElem? hj)
  · intro p m
    have : p.1 ∈ l.map (·.1) := by rw [← hk]; exact List.mem_map.mpr ⟨p, m, rfl⟩
    obtain ⟨q, hq, eq⟩ := List.mem_map.mp this
    rw [← eq]
    exact L.off q hq
  · have := L.off _ m0
    have nb : b ≠ a := fun w => by rw [w, this] at eb; cases eb
    rw [upd_ne nb]
    exact L.ex _ _ eb
end Sk
namespace Sk
open PySem PySem.Spec PyProof.Rows L2 Evl
/-! ### comprehensions -/
def Fc (sq : Hp → Prop) (g : TG) (tt : TT) (te : TE) (vs : List Nat) (σ : L2.St) (D : Addr) (Qd : Hp → Prop) : List V → Hp → Prop
  | [] => fun H => sq H ∧ Qd H
  | x :: xs => fun H => sq H ∧ g x (wipe σ vs) H fun σ2 H2 => wipe σ2 vs = wipe σ vs ∧ tt σ2 H2 fun b H3 =>
      if b = true then te σ2 H3 fun y H4 => ∃ acc, H4 D = some (.lst acc) ∧ acc.length < sizeLine ∧ Fc sq g tt te vs σ D Qd xs (upd H4 D (.lst (acc ++ [y]))) else Fc sq g tt te vs σ D Qd xs H3
theorem Fc.sq {sq : Hp → Prop} {g : TG} {tt : TT} {te : TE} {vs : List Nat} {σ : L2.St} {D : Addr} {Qd : Hp → Prop} {xs : List V} {H : Hp} (h : Fc sq g tt te vs σ D Qd xs H) : sq H := by
  cases xs with
  | nil => exact h.1
  | cons x xs => exact h.1
section
variable {K : PySem.W.Frag} {a : Addr} {xs : List V} {g : TG} {tt : TT} {te : TE} {vs : List Nat} {σ : L2.St} {H1 : Hp} {D : Addr} {Qd : Hp → Prop}
theorem lc_tupU (h : Fc (fun H => SqT K H a xs) g tt te vs σ D Qd xs (upd H1 D (.lst []))) :
    ∃ W : Nat → Nat → Hp → Prop, (∃ m, W 0 m (upd H1 D (.lst []))) ∧ ∀ i m H, W i m H →
      ((Itt K a).stop i H ∧ Qd H) ∨ ((Itt K a).go i H ∧ ∃ Nx : Hp → Prop, (∀ H', Nx H' → ∃ m', m' < m ∧ W (i + 1) m' H') ∧ ∀ x H', (Itt K a).yld i H x H' → g x (wipe σ vs) H' fun σ2 H2 => wipe σ2 vs = wipe σ vs ∧ tt σ2 H2 fun b H3 =>
        if b = true then te σ2 H3 fun y H4 => ∃ acc, H4 D = some (.lst acc) ∧ acc.length < sizeLine ∧ Nx (upd H4 D (.lst (acc ++ [y]))) else Nx H3) :=
  lc_tup (xs := xs) (fun i H => Fc (fun H => SqT K H a xs) g tt te vs σ D Qd (xs.drop i) H) h (fun i H _ p => p.sq) (fun i x H e p => by rw [drop_at e] at p; exact p.2) (fun H p => by rw [List.drop_length] at p; exact p.2)
theorem lc_listU (h : Fc (fun H => SqL K H a xs) g tt te vs σ D Qd xs (upd H1 D (.lst []))) :
    ∃ W : Nat → Nat → Hp → Prop, (∃ m, W 0 m (upd H1 D (.lst []))) ∧ ∀ i m H, W i m H →
      ((Itl K a).stop i H ∧ Qd H) ∨ ((Itl K a).go i H ∧ ∃ Nx : Hp → Prop, (∀ H', Nx H' → ∃ m', m' < m ∧ W (i + 1) m' H') ∧ ∀ x H', (Itl K a).yld i H x H' → g x (wipe σ vs) H' fun σ2 H2 => wipe σ2 vs = wipe σ vs ∧ tt σ2 H2 fun b H3 =>
        if b = true then te σ2 H3 fun y H4 => ∃ acc, H4 D = some (.lst acc) ∧ acc.length < sizeLine ∧ Nx (upd H4 D (.lst (acc ++ [y]))) else Nx H3) :=
  lc_list (xs := xs) (fun i H => Fc (fun H => SqL K H a xs) g tt te vs σ D Qd (xs.drop i) H) h (fun i H _ p => p.sq) (fun i x H e p => by rw [drop_at e] at p; exact p.2) (fun H p => by rw [List.drop_length] at p; exact p.2)
end
end Sk
namespace Sk
open PySem PySem.Spec PyProof.Rows L2 Evl
theorem Lv.ext {H0 H H' : Hp} {l : List (Addr × HO)} (L : Lv H0 H l) (x : Ex H H') : Lv H0 H' l := ⟨L.nd, fun p m => x _ _ (L.at_ p m), L.off, L.ex.trans x⟩
end Sk
namespace Sk
open PySem PySem.Spec PyProof.Rows L2 Evl
theorem Lv.go {C : Hp → Prop} {H0 H : Hp} {l : List (Addr × HO)} (L : Lv H0 H l) (k : ∀ G, Lv H0 G l → C G) : C H := k H L
end Sk

/-! States of two small languages: the def renumbered. -/
namespace Sk
open PySem PySem.Spec PyProof.Rows L2 Evl
abbrev sCommon : Stmt := topS 28
abbrev sRenum : Stmt := topS 36
abbrev sAscend : Stmt := topS 38
abbrev sCounts : Stmt := topS 39
abbrev sMoves : Stmt := topS 40
abbrev sTexts : Stmt := topS 48
abbrev NRen : List Str := ["states", "first", "numbers", "order", "found", "accepting", "steps", "row", "sign", "later"]
theorem scRen : FnScope NRen ["states", "first"] (defScope sRenum) := ⟨rfl, rfl, rfl, by decide +kernel, rfl, by decide +kernel, by decide +kernel⟩
/-- the automaton of no text, as it is handed on -/
def StA (H : Hp) (p : Addr) : Prop := ∃ s r, H p = some (.lst [.ref s]) ∧ H s = some (.tup [.bl false, .ref r]) ∧ Tq H r []
/-- the automaton of "a" -/
def StB (H : Hp) (p : Addr) : Prop := ∃ s t r u q, H p = some (.lst [.ref s, .ref t]) ∧ H s = some (.tup [.bl false, .ref r]) ∧ Tq H r [.ref q] ∧ H q = some (.tup [.str "a", .int 1]) ∧ H t = some (.tup [.bl true, .ref u]) ∧ Tq H u []
theorem StA.mono {H H' : Hp} {p : Addr} (x : Ex H H') (h : StA H p) : StA H' p := let ⟨s, r, a, b, c⟩ := h; ⟨s, r, x _ _ a, x _ _ b, c.mono x⟩
theorem StB.mono {H H' : Hp} {p : Addr} (x : Ex H H') (h : StB H p) : StB H' p := let ⟨s, t, r, u, q, a, b, c, d, e, f⟩ := h; ⟨s, t, r, u, q, x _ _ a, x _ _ b, c.mono x, x _ _ d, x _ _ e, f.mono x⟩
def St2 (H : Hp) (p : Addr) : Prop := StA H p ∨ StB H p
def spRen : Sp := fun vs H Q _ => ∃ p, (∀ p' H', Ex H H' → St2 H' p' → Q (.ref p') H') ∧
  ((vs = [.ref p, .int 0] ∧ ∃ s r, H p = some (.lst [.ref s]) ∧ H s = some (.tup [.bl false, .ref r]) ∧ H r = some (.tup [])) ∨
   (vs = [.ref p, .int 1] ∧ ∃ s t r u q, H p = some (.lst [.ref t, .ref s]) ∧ H s = some (.tup [.bl false, .ref r]) ∧ H r = some (.tup [.ref q]) ∧ H q = some (.tup [.str "a", .int 0]) ∧ H t = some (.tup [.bl true, .ref u]) ∧ H u = some (.tup [])))
section
variable {P : Program} {w : World} {K : PySem.W.Frag} {mg : Str → Option Value} {base : Heap} {f : Addr} {fd : FuncData}
theorem ok_ren {k : Nat} (F : Fun K "renumbered" "renumbered" sRenum f fd) (B : Blt mg) (B2 : Blt2 mg) (nw : ∃ t, mg "NOWHERE" = some (.int (-1) t)) : FnOk P w K mg base CX0 (k + 1) f fd ["states", "first"] spRen := by
  refine F.ok scRen (fun vs H Q E h => ?_) (fun cdv A outer s H vs Q E hr h => ?_)
  · obtain ⟨_, _, ⟨rfl, _⟩ | ⟨rfl, _⟩⟩ := h <;> rfl
  have nd := scRen.nd
  obtain ⟨tn, hn⟩ := nw
  obtain ⟨p, q, h⟩ := h
  have hv : ∃ i, vs = [.ref p, .int i] := by
    rcases h with ⟨rfl, _⟩ | ⟨rfl, _⟩ <;> exact ⟨_, rfl⟩
  refine ⟨_, pss_cons (ps_set (i := 2) nd rfl (Or.inl rfl) (pe_op op_rep (pe_lst (pa_cons (pe_glob (v := .int (-1)) rfl hn ⟨_, rfl⟩) pa_nil)) (pe_callB call_len_seq rfl B.len PySem.boot_len (pa_cons (pv 0) pa_nil))))
    (pss_cons (ps_asg pe_int (pg_sub (pv 2) (pv 1) set_list))
    (pss_cons (ps_set (i := 3) nd rfl (Or.inl rfl) (pe_lst (pa_cons (pv 1) pa_nil)))
    (pss_cons (ps_set (i := 4) nd rfl (Or.inl rfl) (pe_lst pa_nil))
    (pss_cons (ps_while PassesOwn.never (pt_cmpR op_lt (pe_callB call_len_seq rfl B.len PySem.boot_len (pa_cons (pv 4) pa_nil)) (pe_callB call_len_seq rfl B.len PySem.boot_len (pa_cons (pv 3) pa_nil)) (nomark _))
      (pss_cons (ps_asg (pe_ix ix_list (pv 0) (pe_ix ix_list (pv 3) (pe_callB call_len_seq rfl B.len PySem.boot_len (pa_cons (pv 4) pa_nil)) (fun _ _ => rfl)) (fun _ _ => rfl)) (pg_tup rfl (pgs_cons (pg_name (i := 5) nd rfl (Or.inl rfl)) (pgs_cons (pg_name (i := 6) nd rfl (Or.inl rfl)) pgs_nil))))
      (pss_cons (ps_set (i := 7) nd rfl (Or.inl rfl) (pe_lst pa_nil))
      (pss_cons (ps_for PassesOwn.never rfl (pi_tup (pv 6)) (pg_tup rfl (pgs_cons (pg_name (i := 8) nd rfl (Or.inl rfl)) (pgs_cons (pg_name (i := 9) nd rfl (Or.inl rfl)) pgs_nil)))
        (pss_cons (ps_if (pt_cmpR op_eq (pe_ix ix_list (pv 2) (pv 9) (fun _ _ => rfl)) (pe_glob (v := .int (-1)) rfl hn ⟨_, rfl⟩) (nomark _))
          (pss_cons (ps_asg (pe_callB call_len_seq rfl B.len PySem.boot_len (pa_cons (pv 3) pa_nil)) (pg_sub (pv 2) (pv 9) set_list))
          (pss_one (ps_expr (pe_bm PySem.F.plainAttrs_list PySem.F.slot_list_append PySem.F.type_list_append mt_append (pv 3) (pa_cons (pv 9) pa_nil))))) pss_nil)
        (pss_one (ps_expr (pe_bm PySem.F.plainAttrs_list PySem.F.slot_list_append PySem.F.type_list_append mt_append (pv 7) (pa_cons (pe_tup (pa_cons (pv 8) (pa_cons (pe_ix ix_list (pv 2) (pv 9) (fun _ _ => rfl)) pa_nil))) pa_nil))))))
      (pss_one (ps_expr (pe_bm PySem.F.plainAttrs_list PySem.F.slot_list_append PySem.F.type_list_append mt_append (pv 4) (pa_cons (pe_tup (pa_cons (pv 5) (pa_cons (pe_callTy call_tupleF rfl B2.tuple bt_tuple (pa_cons (pv 7) pa_nil)) pa_nil))) pa_nil))))))))
    (pss_one (ps_ret (pv 4))))))), ?_⟩
  rcases h with ⟨rfl, s0, r0, hp, hs, hr0⟩ | ⟨rfl, s0, t0, r0, u0, q0, hp, hs, hr0, hq0, ht0, hu0⟩
  · refine ⟨nle' (by show 1 ≤ 1000; decide), fun a0 n0 => ?_⟩
    have L1 := (Lv.nil (Ex.refl H)).new (o := HO.lst [V.int (-1)]) n0
    generalize upd H a0 (HO.lst [V.int (-1)]) = G1 at L1 ⊢
    refine ⟨_, rfl, p, _, rfl, .inl (SqL.of (L1.ex _ _ hp)), a0, _, _, rfl, rfl, (L1.get 0 rfl), (by show -(2 ^ 63) ≤ (1 : Int); decide), (by show (1 : Int) < 2 ^ 63; decide), nle' (by show 1 ≤ 1000; decide), fun a1 n1 => ?_⟩
    have L2 := L1.new (o := HO.lst (List.replicate (Int.toNat ((([V.ref s0] : List V).length : Nat) : Int)) [V.int (-1)]).flatten) n1
    generalize upd G1 a1 (HO.lst (List.replicate (Int.toNat ((([V.ref s0] : List V).length : Nat) : Int)) [V.int (-1)]).flatten) = G2 at L2 ⊢
    refine ⟨_, rfl, _, rfl, a1, [V.int (-1)], 0, 0, rfl, rfl, (L2.get 0 rfl), rfl, ?_⟩
    have L3 := L2.mut 0 (a := a1) (HO.lst ([V.int (-1)].set 0 (V.int 0))) rfl
    generalize upd G2 a1 (HO.lst ([V.int (-1)].set 0 (V.int 0))) = G3 at L3 ⊢
    refine ⟨_, rfl, nle' (by show 1 ≤ 1000; decide), fun a2 n2 => ?_⟩
    have L4 := L3.new (o := HO.lst [V.int 0]) n2
    generalize upd G3 a2 (HO.lst [V.int 0]) = G4 at L4 ⊢
    refine ⟨nle' (by show 0 ≤ 1000; decide), fun a3 n3 => ?_⟩
    have L5 := L4.new (o := HO.lst []) n3
    generalize upd G4 a3 (HO.lst []) = G5 at L5 ⊢
    refine while_n (mon_test (mon_op mon_I0 (mon_len mon_var) (mon_len mon_var))) 1 ?_
    refine ⟨_, rfl, a3, ([] : List V), rfl, .inl (SqL.of (L5.get 0 rfl)), _, rfl, a2, [V.int 0], rfl, .inl (SqL.of (L5.get 1 rfl)), _, _, rfl, rfl, true, rfl, iteT ?_⟩
    refine ⟨_, rfl, _, rfl, _, rfl, a3, ([] : List V), rfl, .inl (SqL.of (L5.get 0 rfl)), a2, [V.int 0], _, .int 0, rfl, rfl, (SqL.of (L5.get 1 rfl)), rfl, p, _, 0, .ref s0, rfl, rfl, SqL.of (L5.ex _ _ hp), rfl, s0, _, rfl, SqT.of (L5.ex _ _ hs), rfl, _, _, rfl, _, _, rfl, rfl, ?_⟩
    refine ⟨nle' (by show 0 ≤ 1000; decide), fun a4 n4 => ?_⟩
    have L6 := L5.new (o := HO.lst []) n4
    generalize upd G5 a4 (HO.lst []) = G6 at L6 ⊢
    refine ⟨_, rfl, r0, rfl, ⟨_, SqT.of (L6.ex _ _ hr0)⟩, for_tupU (xs := []) ⟨SqT.of (L6.ex _ _ hr0), ?_⟩⟩
    refine ⟨_, rfl, Or.inl ⟨rfl, _, (SqL.of (L6.get 1 rfl))⟩, _, rfl, _, rfl, a4, ([] : List V), rfl, (SqL.of (L6.get 0 rfl)), fun t5 ot5 nt5 dt5 => ?_⟩
    have L7 := L6.new (o := HO.frz ot5 (.tup ([] : List V))) nt5
    generalize upd G6 t5 (HO.frz ot5 (.tup ([] : List V))) = G7 at L7 ⊢
    refine ⟨nle' (by show 2 ≤ 1000; decide), fun t6 nt6 => ?_⟩
    have L8 := L7.new (o := HO.tup [V.bl false, V.ref t5]) nt6
    generalize upd G7 t6 (HO.tup [V.bl false, V.ref t5]) = G8 at L8 ⊢
    refine ⟨a3, ([] : List V), .ref t6, rfl, rfl, (L8.get 3 rfl), Nat.lt_of_lt_of_le (show 0 < 1000 by decide) (nle' (Nat.le_refl _)), ?_⟩
    have L9 := L8.mut 3 (a := a3) (HO.lst (([] : List V) ++ [V.ref t6])) rfl
    generalize upd G8 a3 (HO.lst (([] : List V) ++ [V.ref t6])) = G9 at L9 ⊢
    refine ⟨_, rfl, a3, [V.ref t6], rfl, .inl (SqL.of (L9.get 3 rfl)), _, rfl, a2, [V.int 0], rfl, .inl (SqL.of (L9.get 4 rfl)), _, _, rfl, rfl, false, rfl, rfl, ?_⟩
    exact ⟨_, rfl, q a3 _ L9.ex (.inl ⟨t6, t5, (L9.get 3 rfl), (L9.get 0 rfl), ot5, dt5, (L9.get 1 rfl)⟩)⟩
  · refine ⟨nle' (by show 1 ≤ 1000; decide), fun a0 n0 => ?_⟩
    have L1 := (Lv.nil (Ex.refl H)).new (o := HO.lst [V.int (-1)]) n0
    generalize upd H a0 (HO.lst [V.int (-1)]) = G1 at L1 ⊢
    refine ⟨_, rfl, p, _, rfl, .inl (SqL.of (L1.ex _ _ hp)), a0, _, _, rfl, rfl, (L1.get 0 rfl), (by show -(2 ^ 63) ≤ (2 : Int); decide), (by show (2 : Int) < 2 ^ 63; decide), nle' (by show 2 ≤ 1000; decide), fun a1 n1 => ?_⟩
    have L2 := L1.new (o := HO.lst (List.replicate (Int.toNat ((([V.ref t0, V.ref s0] : List V).length : Nat) : Int)) [V.int (-1)]).flatten) n1
    generalize upd G1 a1 (HO.lst (List.replicate (Int.toNat ((([V.ref t0, V.ref s0] : List V).length : Nat) : Int)) [V.int (-1)]).flatten) = G2 at L2 ⊢
    refine ⟨_, rfl, _, rfl, a1, [V.int (-1), V.int (-1)], 1, 1, rfl, rfl, (L2.get 0 rfl), rfl, ?_⟩
    have L3 := L2.mut 0 (a := a1) (HO.lst ([V.int (-1), V.int (-1)].set 1 (V.int 0))) rfl
    generalize upd G2 a1 (HO.lst ([V.int (-1), V.int (-1)].set 1 (V.int 0))) = G3 at L3 ⊢
    refine ⟨_, rfl, nle' (by show 1 ≤ 1000; decide), fun a2 n2 => ?_⟩
    have L4 := L3.new (o := HO.lst [V.int 1]) n2
    generalize upd G3 a2 (HO.lst [V.int 1]) = G4 at L4 ⊢
    refine ⟨nle' (by show 0 ≤ 1000; decide), fun a3 n3 => ?_⟩
    have L5 := L4.new (o := HO.lst []) n3
    generalize upd G4 a3 (HO.lst []) = G5 at L5 ⊢
    refine while_n (mon_test (mon_op mon_I0 (mon_len mon_var) (mon_len mon_var))) 2 ?_
    refine ⟨_, rfl, a3, ([] : List V), rfl, .inl (SqL.of (L5.get 0 rfl)), _, rfl, a2, [V.int 1], rfl, .inl (SqL.of (L5.get 1 rfl)), _, _, rfl, rfl, true, rfl, iteT ?_⟩
    refine ⟨_, rfl, _, rfl, _, rfl, a3, ([] : List V), rfl, .inl (SqL.of (L5.get 0 rfl)), a2, [V.int 1], _, .int 1, rfl, rfl, (SqL.of (L5.get 1 rfl)), rfl, p, _, 1, .ref s0, rfl, rfl, SqL.of (L5.ex _ _ hp), rfl, s0, _, rfl, SqT.of (L5.ex _ _ hs), rfl, _, _, rfl, _, _, rfl, rfl, ?_⟩
    refine ⟨nle' (by show 0 ≤ 1000; decide), fun a4 n4 => ?_⟩
    have L6 := L5.new (o := HO.lst []) n4
    generalize upd G5 a4 (HO.lst []) = G6 at L6 ⊢
    refine ⟨_, rfl, r0, rfl, ⟨_, SqT.of (L6.ex _ _ hr0)⟩, for_tupU (xs := [.ref q0]) ⟨SqT.of (L6.ex _ _ hr0), q0, _, rfl, SqT.of (L6.ex _ _ hq0), rfl, _, _, rfl, _, _, rfl, rfl, ?_⟩⟩
    refine ⟨_, rfl, _, rfl, a1, [.int (-1), .int 0], 0, .int (-1), rfl, rfl, (SqL.of (L6.get 3 rfl)), rfl, rfl, true, rfl, iteT ?_⟩
    refine ⟨_, rfl, a2, [.int 1], rfl, .inl (SqL.of (L6.get 2 rfl)), _, rfl, _, rfl, a1, [.int (-1), .int 0], 0, 0, rfl, rfl, (L6.get 3 rfl), rfl, ?_⟩
    have L7 := L6.mut 3 (a := a1) (HO.lst ([V.int (-1), V.int 0].set 0 (V.int ((([V.int 1] : List V).length : Nat) : Int)))) rfl
    generalize upd G6 a1 (HO.lst ([V.int (-1), V.int 0].set 0 (V.int ((([V.int 1] : List V).length : Nat) : Int)))) = G7 at L7 ⊢
    refine ⟨_, rfl, Or.inl ⟨rfl, _, (SqL.of (L7.get 2 rfl))⟩, _, rfl, a2, [.int 1], .int 0, rfl, rfl, (L7.get 2 rfl), Nat.lt_of_lt_of_le (show 1 < 1000 by decide) (nle' (Nat.le_refl _)), ?_⟩
    have L8 := L7.mut 2 (a := a2) (HO.lst ([V.int 1] ++ [V.int 0])) rfl
    generalize upd G7 a2 (HO.lst ([V.int 1] ++ [V.int 0])) = G8 at L8 ⊢
    refine ⟨_, rfl, Or.inl ⟨rfl, _, (SqL.of (L8.get 0 rfl))⟩, _, rfl, _, rfl, _, rfl, a1, [.int 1, .int 0], 0, .int 1, rfl, rfl, (SqL.of (L8.get 3 rfl)), rfl, nle' (by show 2 ≤ 1000; decide), fun t7 n7 => ?_⟩
    have L9 := L8.new (o := HO.tup [V.str "a", V.int 1]) n7
    generalize upd G8 t7 (HO.tup [V.str "a", V.int 1]) = G9 at L9 ⊢
    refine ⟨a4, [], .ref t7, rfl, rfl, (L9.get 1 rfl), Nat.lt_of_lt_of_le (show 0 < 1000 by decide) (nle' (Nat.le_refl _)), ?_⟩
    have L10 := L9.mut 1 (a := a4) (HO.lst ([] ++ [V.ref t7])) rfl
    generalize upd G9 a4 (HO.lst ([] ++ [V.ref t7])) = G10 at L10 ⊢
    refine ⟨SqT.of (L10.ex _ _ hr0), ?_⟩
    refine ⟨_, rfl, Or.inl ⟨rfl, _, (SqL.of (L10.get 2 rfl))⟩, _, rfl, _, rfl, a4, [V.ref t7], rfl, (SqL.of (L10.get 1 rfl)), fun t8 ot8 nt8 dt8 => ?_⟩
    have L11 := L10.new (o := HO.frz ot8 (.tup [V.ref t7])) nt8
    generalize upd G10 t8 (HO.frz ot8 (.tup [V.ref t7])) = G11 at L11 ⊢
    refine ⟨nle' (by show 2 ≤ 1000; decide), fun t9 nt9 => ?_⟩
    have L12 := L11.new (o := HO.tup [V.bl false, V.ref t8]) nt9
    generalize upd G11 t9 (HO.tup [V.bl false, V.ref t8]) = G12 at L12 ⊢
    refine ⟨a3, ([] : List V), .ref t9, rfl, rfl, (L12.get 4 rfl), Nat.lt_of_lt_of_le (show 0 < 1000 by decide) (nle' (Nat.le_refl _)), ?_⟩
    have L13 := L12.mut 4 (a := a3) (HO.lst (([] : List V) ++ [V.ref t9])) rfl
    generalize upd G12 a3 (HO.lst (([] : List V) ++ [V.ref t9])) = G13 at L13 ⊢
    refine ⟨_, rfl, a3, [V.ref t9], rfl, .inl (SqL.of (L13.get 4 rfl)), _, rfl, a2, [V.int 1, .int 0], rfl, .inl (SqL.of (L13.get 5 rfl)), _, _, rfl, rfl, true, rfl, iteT ?_⟩
    refine ⟨_, rfl, _, rfl, _, rfl, a3, [V.ref t9], rfl, .inl (SqL.of (L13.get 4 rfl)), a2, [V.int 1, .int 0], _, .int 0, rfl, rfl, (SqL.of (L13.get 5 rfl)), rfl, p, _, 0, .ref t0, rfl, rfl, SqL.of (L13.ex _ _ hp), rfl, t0, _, rfl, SqT.of (L13.ex _ _ ht0), rfl, _, _, rfl, _, _, rfl, rfl, ?_⟩
    refine ⟨nle' (by show 0 ≤ 1000; decide), fun b4 m4 => ?_⟩
    have L14 := L13.new (o := HO.lst []) m4
    generalize upd G13 b4 (HO.lst []) = G14 at L14 ⊢
    refine ⟨_, rfl, u0, rfl, ⟨_, SqT.of (L14.ex _ _ hu0)⟩, for_tupU (xs := []) ⟨SqT.of (L14.ex _ _ hu0), ?_⟩⟩
    refine ⟨_, rfl, Or.inl ⟨rfl, _, (SqL.of (L14.get 5 rfl))⟩, _, rfl, _, rfl, b4, ([] : List V), rfl, (SqL.of (L14.get 0 rfl)), fun t10 ot10 nt10 dt10 => ?_⟩
    have L15 := L14.new (o := HO.frz ot10 (.tup ([] : List V))) nt10
    generalize upd G14 t10 (HO.frz ot10 (.tup ([] : List V))) = G15 at L15 ⊢
    refine ⟨nle' (by show 2 ≤ 1000; decide), fun t11 nt11 => ?_⟩
    have L16 := L15.new (o := HO.tup [V.bl true, V.ref t10]) nt11
    generalize upd G15 t11 (HO.tup [V.bl true, V.ref t10]) = G16 at L16 ⊢
    refine ⟨a3, [V.ref t9], .ref t11, rfl, rfl, (L16.get 7 rfl), Nat.lt_of_lt_of_le (show 1 < 1000 by decide) (nle' (Nat.le_refl _)), ?_⟩
    have L17 := L16.mut 7 (a := a3) (HO.lst ([V.ref t9] ++ [V.ref t11])) rfl
    generalize upd G16 a3 (HO.lst ([V.ref t9] ++ [V.ref t11])) = G17 at L17 ⊢
    refine ⟨_, rfl, a3, [V.ref t9, .ref t11], rfl, .inl (SqL.of (L17.get 7 rfl)), _, rfl, a2, [V.int 1, .int 0], rfl, .inl (SqL.of (L17.get 8 rfl)), _, _, rfl, rfl, false, rfl, rfl, ?_⟩
    exact ⟨_, rfl, q a3 _ L17.ex (.inr ⟨t9, t11, t8, t10, t7, (L17.get 7 rfl), (L17.get 3 rfl), ⟨ot8, dt8, (L17.get 4 rfl)⟩, (L17.get 5 rfl), (L17.get 0 rfl), ot10, dt10, (L17.get 1 rfl)⟩)⟩
end
end Sk

/-! The order of the states of two small languages. -/
namespace Sk
open PySem PySem.Spec PyProof.Rows L2 Evl
abbrev NAsc : List Str := ["states", "waiting", "_", "steps", "later", "order", "at"]
theorem scAsc : FnScope NAsc ["states"] (defScope sAscend) := ⟨rfl, rfl, rfl, by decide +kernel, rfl, by decide +kernel, by decide +kernel⟩
def spAsc : Sp := fun vs H Q _ => ∃ p, vs = [.ref p] ∧ ((StA H p ∧ ∀ a H', Ex H H' → H' a = some (.lst [.int 0]) → Q (.ref a) H') ∨ (StB H p ∧ ∀ a H', Ex H H' → H' a = some (.lst [.int 0, .int 1]) → Q (.ref a) H'))
theorem sq_mono {K : PySem.W.Frag} {H H' : Hp} {a : Addr} {xs : List V} (x : Ex H H') (h : SqT K H a xs) : SqT K H' a xs := by
  rcases h with (h | ⟨o, h⟩) | h
  · exact .inl (.inl (x _ _ h))
  · exact .inl (.inr ⟨o, x _ _ h⟩)
  · exact .inr h
section
variable {P : Program} {w : World} {K : PySem.W.Frag} {mg : Str → Option Value} {base : Heap} {f : Addr} {fd : FuncData}
theorem ok_asc {k : Nat} (F : Fun K "ascending_order" "ascending_order" sAscend f fd) (B : Blt mg) : FnOk P w K mg base CX0 (k + 1) f fd ["states"] spAsc := by
  refine F.ok scAsc (fun vs H Q E h => ?_) (fun cdv A outer s H vs Q E hr h => ?_)
  · obtain ⟨_, rfl, _⟩ := h
    rfl
  have nd := scAsc.nd
  obtain ⟨p, rfl, h⟩ := h
  refine ⟨_, pss_cons (ps_set (i := 1) nd rfl (Or.inl rfl) (pe_op op_rep (pe_lst (pa_cons pe_int pa_nil)) (pe_callB call_len_seq rfl B.len PySem.boot_len (pa_cons (pv 0) pa_nil))))
    (pss_cons (ps_for PassesOwn.never rfl (pi_list (pv 0)) (pg_tup rfl (pgs_cons (pg_name (i := 2) nd rfl (Or.inl rfl)) (pgs_cons (pg_name (i := 3) nd rfl (Or.inl rfl)) pgs_nil)))
      (pss_one (ps_for PassesOwn.never rfl (pi_tup (pv 3)) (pg_tup rfl (pgs_cons (pg_name (i := 2) nd rfl (Or.inl rfl)) (pgs_cons (pg_name (i := 4) nd rfl (Or.inl rfl)) pgs_nil)))
        (pss_one (ps_asg (pe_op op_add (pe_ix ix_list (pv 1) (pv 4) (fun _ _ => rfl)) pe_int) (pg_sub (pv 1) (pv 4) set_list))))))
    (pss_cons (ps_set (i := 5) nd rfl (Or.inl rfl) (pe_lst (pa_cons pe_int pa_nil)))
    (pss_cons (ps_set (i := 6) nd rfl (Or.inl rfl) pe_int)
    (pss_cons (ps_while PassesOwn.never (pt_cmpR op_lt (pv 6) (pe_callB call_len_seq rfl B.len PySem.boot_len (pa_cons (pv 5) pa_nil)) (nomark _))
      (pss_cons (ps_for PassesOwn.never rfl (pi_tup (pe_ix ix_tup (pe_ix ix_list (pv 0) (pe_ix ix_list (pv 5) (pv 6) (fun _ _ => rfl)) (fun _ _ => rfl)) pe_int (fun _ _ => rfl))) (pg_tup rfl (pgs_cons (pg_name (i := 2) nd rfl (Or.inl rfl)) (pgs_cons (pg_name (i := 4) nd rfl (Or.inl rfl)) pgs_nil)))
        (pss_cons (ps_asg (pe_op op_sub (pe_ix ix_list (pv 1) (pv 4) (fun _ _ => rfl)) pe_int) (pg_sub (pv 1) (pv 4) set_list))
        (pss_one (ps_if (pt_cmpR op_eq (pe_ix ix_list (pv 1) (pv 4) (fun _ _ => rfl)) pe_int (nomark _)) (pss_one (ps_expr (pe_bm PySem.F.plainAttrs_list PySem.F.slot_list_append PySem.F.type_list_append mt_append (pv 5) (pa_cons (pv 4) pa_nil)))) pss_nil))))
      (pss_one (ps_set (i := 6) nd rfl (Or.inl rfl) (pe_op op_add (pv 6) pe_int)))))
    (pss_one (ps_ret (pv 5))))))), ?_⟩
  rcases h with ⟨⟨s0, r0, hp, hs, hr⟩, q⟩ | ⟨⟨s0, t0, r0, u0, q0, hp, hs, hr, hq0, ht, hu⟩, q⟩
  · have hr0 := hr.sq (K := K)
    refine ⟨nle' (by show 1 ≤ 1000; decide), fun a0 n0 => ?_⟩
    have L1 := (Lv.nil (Ex.refl H)).new (o := HO.lst [V.int 0]) n0
    generalize upd H a0 (HO.lst [V.int 0]) = G1 at L1 ⊢
    refine ⟨_, rfl, p, _, rfl, .inl (SqL.of (L1.ex _ _ hp)), a0, _, _, rfl, rfl, (L1.get 0 rfl), (by show -(2 ^ 63) ≤ (1 : Int); decide), (by show (1 : Int) < 2 ^ 63; decide), nle' (by show 1 ≤ 1000; decide), fun a1 n1 => ?_⟩
    have L2 := L1.new (o := HO.lst (List.replicate (Int.toNat ((([V.ref s0] : List V).length : Nat) : Int)) [V.int 0]).flatten) n1
    generalize upd G1 a1 (HO.lst (List.replicate (Int.toNat ((([V.ref s0] : List V).length : Nat) : Int)) [V.int 0]).flatten) = G2 at L2 ⊢
    refine ⟨_, rfl, p, rfl, ⟨_, SqL.of (L2.ex _ _ hp)⟩, for_listU (xs := [V.ref s0]) ⟨SqL.of (L2.ex _ _ hp), s0, _, rfl, SqT.of (L2.ex _ _ hs), rfl, _, _, rfl, _, _, rfl, rfl, ?_⟩⟩
    refine ⟨_, rfl, r0, rfl, ⟨_, (sq_mono L2.ex hr0)⟩, for_tupU (xs := []) ⟨(sq_mono L2.ex hr0), ?_⟩⟩
    refine ⟨SqL.of (L2.ex _ _ hp), ?_⟩
    refine ⟨nle' (by show 1 ≤ 1000; decide), fun a2 n2 => ?_⟩
    have L3 := L2.new (o := HO.lst [V.int 0]) n2
    generalize upd G2 a2 (HO.lst [V.int 0]) = G3 at L3 ⊢
    refine while_n (mon_test (mon_op mon_I0 mon_var (mon_len mon_var))) 1 ?_
    refine ⟨_, rfl, _, rfl, a2, [V.int 0], rfl, .inl (SqL.of (L3.get 0 rfl)), _, _, rfl, rfl, true, rfl, iteT ?_⟩
    refine ⟨_, rfl, _, rfl, _, rfl, a2, [V.int 0], _, .int 0, rfl, rfl, (SqL.of (L3.get 0 rfl)), rfl, p, _, 0, .ref s0, rfl, rfl, SqL.of (L3.ex _ _ hp), rfl, s0, _, 1, .ref r0, rfl, rfl, SqT.of (L3.ex _ _ hs), rfl, r0, rfl, ⟨_, (sq_mono L3.ex hr0)⟩, for_tupU (xs := []) ⟨(sq_mono L3.ex hr0), ?_⟩⟩
    refine ⟨_, rfl, _, _, rfl, rfl, ?_⟩
    refine ⟨_, rfl, _, rfl, a2, [V.int 0], rfl, .inl (SqL.of (L3.get 0 rfl)), _, _, rfl, rfl, false, rfl, rfl, ?_⟩
    exact ⟨_, rfl, q a2 _ L3.ex (L3.get 0 rfl)⟩
  · have hr0 := hr.sq (K := K)
    have hu0 := hu.sq (K := K)
    refine ⟨nle' (by show 1 ≤ 1000; decide), fun a0 n0 => ?_⟩
    have L1 := (Lv.nil (Ex.refl H)).new (o := HO.lst [V.int 0]) n0
    generalize upd H a0 (HO.lst [V.int 0]) = G1 at L1 ⊢
    refine ⟨_, rfl, p, _, rfl, .inl (SqL.of (L1.ex _ _ hp)), a0, _, _, rfl, rfl, (L1.get 0 rfl), (by show -(2 ^ 63) ≤ (2 : Int); decide), (by show (2 : Int) < 2 ^ 63; decide), nle' (by show 2 ≤ 1000; decide), fun a1 n1 => ?_⟩
    have L2 := L1.new (o := HO.lst (List.replicate (Int.toNat ((([V.ref s0, V.ref t0] : List V).length : Nat) : Int)) [V.int 0]).flatten) n1
    generalize upd G1 a1 (HO.lst (List.replicate (Int.toNat ((([V.ref s0, V.ref t0] : List V).length : Nat) : Int)) [V.int 0]).flatten) = G2 at L2 ⊢
    refine ⟨_, rfl, p, rfl, ⟨_, SqL.of (L2.ex _ _ hp)⟩, for_listU (xs := [V.ref s0, V.ref t0]) ⟨SqL.of (L2.ex _ _ hp), s0, _, rfl, SqT.of (L2.ex _ _ hs), rfl, _, _, rfl, _, _, rfl, rfl, ?_⟩⟩
    refine ⟨_, rfl, r0, rfl, ⟨_, (sq_mono L2.ex hr0)⟩, for_tupU (xs := [.ref q0]) ⟨(sq_mono L2.ex hr0), q0, _, rfl, SqT.of (L2.ex _ _ hq0), rfl, _, _, rfl, _, _, rfl, rfl, ?_⟩⟩
    refine ⟨_, rfl, _, rfl, a1, [.int 0, .int 0], 1, .int 0, rfl, rfl, (SqL.of (L2.get 0 rfl)), rfl, _, _, rfl, rfl, _, rfl, _, rfl, a1, [.int 0, .int 0], 1, 1, rfl, rfl, (L2.get 0 rfl), rfl, ?_⟩
    have L3 := L2.mut 0 (a := a1) (HO.lst ([V.int 0, V.int 0].set 1 (V.int (0 + 1)))) rfl
    generalize upd G2 a1 (HO.lst ([V.int 0, V.int 0].set 1 (V.int (0 + 1)))) = G3 at L3 ⊢
    refine ⟨(sq_mono L3.ex hr0), ?_⟩
    refine ⟨SqL.of (L3.ex _ _ hp), t0, _, rfl, SqT.of (L3.ex _ _ ht), rfl, _, _, rfl, _, _, rfl, rfl, ?_⟩
    refine ⟨_, rfl, u0, rfl, ⟨_, (sq_mono L3.ex hu0)⟩, for_tupU (xs := []) ⟨(sq_mono L3.ex hu0), ?_⟩⟩
    refine ⟨SqL.of (L3.ex _ _ hp), ?_⟩
    refine ⟨nle' (by show 1 ≤ 1000; decide), fun a2 n2 => ?_⟩
    have L4 := L3.new (o := HO.lst [V.int 0]) n2
    generalize upd G3 a2 (HO.lst [V.int 0]) = G4 at L4 ⊢
    refine while_n (mon_test (mon_op mon_I0 mon_var (mon_len mon_var))) 2 ?_
    refine ⟨_, rfl, _, rfl, a2, [V.int 0], rfl, .inl (SqL.of (L4.get 0 rfl)), _, _, rfl, rfl, true, rfl, iteT ?_⟩
    refine ⟨_, rfl, _, rfl, _, rfl, a2, [V.int 0], _, .int 0, rfl, rfl, (SqL.of (L4.get 0 rfl)), rfl, p, _, 0, .ref s0, rfl, rfl, SqL.of (L4.ex _ _ hp), rfl, s0, _, 1, .ref r0, rfl, rfl, SqT.of (L4.ex _ _ hs), rfl, r0, rfl, ⟨_, (sq_mono L4.ex hr0)⟩, for_tupU (xs := [.ref q0]) ⟨(sq_mono L4.ex hr0), q0, _, rfl, SqT.of (L4.ex _ _ hq0), rfl, _, _, rfl, _, _, rfl, rfl, ?_⟩⟩
    refine ⟨_, rfl, _, rfl, a1, [.int 0, .int (0 + 1)], 1, .int (0 + 1), rfl, rfl, (SqL.of (L4.get 1 rfl)), rfl, _, _, rfl, rfl, _, rfl, _, rfl, a1, [.int 0, .int (0 + 1)], 1, 1, rfl, rfl, (L4.get 1 rfl), rfl, ?_⟩
    have L5 := L4.mut 1 (a := a1) (HO.lst ([V.int 0, V.int (0 + 1)].set 1 (V.int (0 + 1 - 1)))) rfl
    generalize upd G4 a1 (HO.lst ([V.int 0, V.int (0 + 1)].set 1 (V.int (0 + 1 - 1)))) = G5 at L5 ⊢
    refine ⟨_, rfl, _, rfl, a1, [.int 0, .int (0 + 1 - 1)], 1, .int (0 + 1 - 1), rfl, rfl, (SqL.of (L5.get 1 rfl)), rfl, rfl, true, rfl, iteT ?_⟩
    refine ⟨_, rfl, Or.inl ⟨rfl, _, (SqL.of (L5.get 0 rfl))⟩, _, rfl, a2, [.int 0], .int 1, rfl, rfl, (L5.get 0 rfl), Nat.lt_of_lt_of_le (show 1 < 1000 by decide) (nle' (Nat.le_refl _)), ?_⟩
    have L6 := L5.mut 0 (a := a2) (HO.lst ([V.int 0] ++ [V.int 1])) rfl
    generalize upd G5 a2 (HO.lst ([V.int 0] ++ [V.int 1])) = G6 at L6 ⊢
    refine ⟨(sq_mono L6.ex hr0), ?_⟩
    refine ⟨_, rfl, _, _, rfl, rfl, ?_⟩
    refine ⟨_, rfl, _, rfl, a2, [V.int 0, .int 1], rfl, .inl (SqL.of (L6.get 0 rfl)), _, _, rfl, rfl, true, rfl, iteT ?_⟩
    refine ⟨_, rfl, _, rfl, _, rfl, a2, [V.int 0, .int 1], _, .int 1, rfl, rfl, (SqL.of (L6.get 0 rfl)), rfl, p, _, 1, .ref t0, rfl, rfl, SqL.of (L6.ex _ _ hp), rfl, t0, _, 1, .ref u0, rfl, rfl, SqT.of (L6.ex _ _ ht), rfl, u0, rfl, ⟨_, (sq_mono L6.ex hu0)⟩, for_tupU (xs := []) ⟨(sq_mono L6.ex hu0), ?_⟩⟩
    refine ⟨_, rfl, _, _, rfl, rfl, ?_⟩
    refine ⟨_, rfl, _, rfl, a2, [V.int 0, .int 1], rfl, .inl (SqL.of (L6.get 0 rfl)), _, _, rfl, rfl, false, rfl, rfl, ?_⟩
    exact ⟨_, rfl, q a2 _ L6.ex (L6.get 0 rfl)⟩
end
end Sk

/-! xs[::k], what it gives said. -/
namespace Sk
open PySem PySem.Spec PyProof.Rows L2 Evl
def stepV {α : Type} (xs : List α) (k : Int) : List α := (sliceRange (sliceBounds none none (some k) xs.length).1 (sliceBounds none none (some k) xs.length).2.1 (sliceBounds none none (some k) xs.length).2.2).filterMap (xs[·]?)
def tStepD (K : PySem.W.Frag) (te tk : TE) : TE := fun σ H Q => te σ H fun x H1 => tk σ H1 fun y H2 => ∃ a xs k, x = .ref a ∧ y = .int k ∧ k ≠ 0 ∧ SqL K H2 a xs ∧
  ∀ p, H2 p = none → Q (.ref p) (upd H2 p (.lst (stepV xs k)))
theorem pe_stepD {X : Cx} {e k : Expr} {te tk : TE} {p3 pos : Pos} (he : PE X e te) (hk : PE X k tk) : PE X (.Subscript e (.Slice none none (some k) p3) pos) (tStepD X.K te tk) := by
  refine ⟨fun pins s σ H Q I h => Subscript_ (thn (he.run pins s σ H _ I h) fun v s1 ⟨x, H1, I1, r1, q1⟩ => ?_)⟩
  refine wpAny_Slice (thn (po_none.run pins s1 σ H1 (fun o H2 => o = none ∧ H2 = H1) I1 ⟨rfl, rfl⟩) fun vl s2 ⟨l, H2, I2, pl, el, e2⟩ => ?_)
  cases el
  cases e2
  refine thn (po_none.run pins s2 σ H1 (fun o H2 => o = none ∧ H2 = H1) I2 ⟨rfl, rfl⟩) fun vu s3 ⟨l, H2, I3, pu, el, e2⟩ => ?_
  cases el
  cases e2
  rw [evalPart_some]
  refine thn (hk.run pins s3 σ H1 _ I3 q1) fun vk s4 ⟨y, H4, I4, r4, a, xs, n, ex, ey, hn, hs, q⟩ => ?_
  subst ex
  subst ey
  cases r1
  obtain ⟨t, rfl⟩ := r4
  let s5 : Shared := { s4 with heap := s4.heap.push { cls := .type "slice", data := .fields #[vl, vu, .int n t] } }
  have I5 : Inv X pins σ H4 s5 := I4.kept (t' := s4.toks) fun b ob z => Heap.get?_push_of_some _ z
  obtain ⟨its, r, ht, hz⟩ := I5.list hs
  have hlen := r.length
  show wpAny (model X.prog X.w) X.A (subscriptTail e (.Slice none none (some k) p3) (.ref a) (.ref s4.heap.objs.size)) (EP X pins σ Q) X.xe s5
  refine tail_any (ops := [.ref a, .ref s4.heap.objs.size]) ht.isList.typeIs PySem.slot_list_getitem.lookup ?_ (by with_unfolding_all rfl)
  refine wpAny_getItem_list_slice ht.isList (.new _ vl vu _) pl pu (.int n t) (fun z => hn (Option.some.inj z)) ?_ (by rw [List.size_toArray]; omega)
  have hsz := slicePick_size_le its.toArray none none (some n)
  rw [List.size_toArray] at hsz
  generalize hL : sliceRange (sliceBounds none none (some n) its.toArray.size).1 (sliceBounds none none (some n) its.toArray.size).2.1 (sliceBounds none none (some n) its.toArray.size).2.2 = L
  have e1 : slicePick its.toArray none none (some n) = (L.filterMap (its[·]?)).toArray := by
    unfold slicePick
    rw [hL]
    simp
  rw [e1, List.size_toArray] at hsz
  rw [e1]
  have hsz2 : (L.filterMap (its[·]?)).length ≤ its.length := hsz
  have rz := vals_pick r L
  have hl2 := rz.length
  have el : its.toArray.size = xs.length := by rw [List.size_toArray, hlen]
  rw [el] at hL
  refine ⟨.ref _, _, I5.laid (t' := s4.toks) (o := .lst (L.filterMap (xs[·]?))) (fun b ob z => Heap.get?_push_of_some _ z) (Nat.le_refl _) ?_, rfl, by rw [← hL]; exact q _ (I5.hok.fresh (Nat.le_refl _))⟩
  exact ⟨by rw [hl2]; exact Nat.le_trans hsz2 (by rw [← hlen]; exact hz), _, 0, rz, Heap.get?_push_size _ rfl⟩
end Sk

/-! How many texts two small languages have. -/
namespace Sk
open PySem PySem.Spec PyProof.Rows L2 Evl
abbrev NCnt : List Str := ["states", "found", "at", "accepting", "steps", "_", "later"]
theorem scCnt : FnScope NCnt ["states"] (defScope sCounts) := ⟨rfl, rfl, rfl, by decide +kernel, rfl, by decide +kernel, by decide +kernel⟩
def spCnt : Sp := fun vs H Q _ => ∃ p, vs = [.ref p] ∧ St2 H p ∧ ∀ a n ns H', Ex H H' → H' a = some (.lst (.int n :: ns)) → Q (.ref a) H'
section
variable {P : Program} {w : World} {K : PySem.W.Frag} {mg : Str → Option Value} {base : Heap} {f fA : Addr} {fd dA : FuncData}
theorem ok_cnt (F : Fun K "counts_of" "counts_of" sCounts f fd) (B : Blt mg) (ms : mg "sum" = none) (As : Lt P w K mg base fA dA "ascending_order" ["states"] 1 spAsc) : FnOk P w K mg base CX0 2 f fd ["states"] spCnt := by
  refine F.ok scCnt (fun vs H Q E h => ?_) (fun cdv A outer s H vs Q E hr h => ?_)
  · obtain ⟨_, rfl, _⟩ := h
    rfl
  have nd := scCnt.nd
  obtain ⟨p, rfl, h, q⟩ := h
  refine ⟨_, pss_cons (ps_set (i := 1) nd rfl (Or.inr rfl) (pe_op op_rep (pe_lst (pa_cons pe_int pa_nil)) (pe_callB call_len_seq rfl B.len PySem.boot_len (pa_cons (pv 0) pa_nil))))
    (pss_cons (ps_for PassesOwn.never rfl (pi_list (pe_stepD (pe_call As.g hr rfl As.m As.k As.b .nil pass0 (pa_cons (pv 0) pa_nil)) (pe_un un_neg pe_int))) (pg_name (i := 2) nd rfl (Or.inl rfl))
      (pss_cons (ps_asg (pe_ix ix_list (pv 0) (pv 2) (fun _ _ => rfl)) (pg_tup rfl (pgs_cons (pg_name (i := 3) nd rfl (Or.inl rfl)) (pgs_cons (pg_name (i := 4) nd rfl (Or.inl rfl)) pgs_nil))))
      (pss_one (ps_asg (pe_op op_add (pe_callTy call_int1 rfl B.int bt_int (pa_cons (pv 3) pa_nil)) (pe_callB (cr_sum rfl) rfl ms bt_sum (pa_cons (pe_lc (own := [("_", 5), ("later", 6)]) (g := gTup K 2 (gCons (gName 5) (gCons (gName 6) gNil))) (tt := tYes) (te := tOp (rIxL K) (tVar 1) (tVar 6)) rfl nd (pi_tup (pv 4)) (blkOk_by (N := NCnt) (sc := defScope sCounts) (by decide +kernel))
          (fun _ _ _ _ _ => pg_tup rfl (pgs_cons (pg_name (i := 5) nd rfl (Or.inl rfl)) (pgs_cons (pg_name (i := 6) nd rfl (Or.inl rfl)) pgs_nil))) (fun _ _ _ _ _ => pts_nil) (fun _ _ _ _ _ => pe_ix ix_list (pv 1) (pv 6) (fun _ _ => rfl))) pa_nil)))
        (pg_sub (pv 1) (pv 2) set_list)))))
    (pss_one (ps_ret (pv 1)))), ?_⟩
  rcases h with sa | sb
  · obtain ⟨s0, r0, hp, hs, hr0⟩ := id sa
    have hr0 := hr0.sq (K := K)
    refine ⟨nle' (by show 1 ≤ 1000; decide), fun a0 n0 => ?_⟩
    have L1 := (Lv.nil (Ex.refl H)).new (o := HO.lst [V.int 0]) n0
    generalize upd H a0 (HO.lst [V.int 0]) = G1 at L1 ⊢
    refine ⟨_, rfl, p, _, rfl, .inl (SqL.of (L1.ex _ _ hp)), a0, _, _, rfl, rfl, (L1.get 0 rfl), (by show -(2 ^ 63) ≤ (1 : Int); decide), (by show (1 : Int) < 2 ^ 63; decide), nle' (by show 1 ≤ 1000; decide), fun a1 n1 => ?_⟩
    have L2 := L1.new (o := HO.lst (List.replicate (Int.toNat ((([V.ref s0] : List V).length : Nat) : Int)) [V.int 0]).flatten) n1
    generalize upd G1 a1 (HO.lst (List.replicate (Int.toNat ((([V.ref s0] : List V).length : Nat) : Int)) [V.int 0]).flatten) = G2 at L2 ⊢
    refine ⟨_, rfl, p, rfl, .inl ⟨sa.mono L2.ex, fun b0 Hx xx ex => ?_⟩⟩
    have Lx := L2.ext xx
    have se : stepV [V.int 0] (-1) = [V.int 0] := by decide +kernel
    refine ⟨_, rfl, b0, [V.int 0], -1, rfl, rfl, by decide, SqL.of ex, fun c0 m0 => ?_⟩
    rw [se]
    have L3 := Lx.new (o := HO.lst [V.int 0]) m0
    generalize upd Hx c0 (HO.lst [V.int 0]) = G3 at L3 ⊢
    refine ⟨c0, rfl, ⟨_, (SqL.of (L3.get 0 rfl))⟩, for_listU (xs := [V.int 0]) ⟨(SqL.of (L3.get 0 rfl)), ?_⟩⟩
    refine ⟨_, rfl, _, rfl, p, _, 0, .ref s0, rfl, rfl, SqL.of (L3.ex _ _ hp), rfl, s0, _, rfl, SqT.of (L3.ex _ _ hs), rfl, _, _, rfl, _, _, rfl, rfl, ?_⟩
    refine ⟨_, rfl, .inr ⟨false, rfl, _, rfl, r0, rfl, ⟨_, (sq_mono L3.ex hr0)⟩, fun D hD => ?_⟩⟩
    have MD := L3.new (o := HO.lst []) hD
    refine lc_tupU (xs := []) ⟨(sq_mono MD.ex hr0), ?_⟩
    generalize upd G3 D (HO.lst []) = WD at MD ⊢
    refine ⟨D, [], rfl, (SqL.of (MD.get 0 rfl)), _, _, rfl, rfl, _, rfl, _, rfl, a1, [.int 0], 0, 0, rfl, rfl, (MD.get 2 rfl), rfl, ?_⟩
    have L9 := MD.mut 2 (a := a1) (HO.lst ([V.int 0].set 0 (V.int (0 + 0)))) rfl
    refine ⟨SqL.of (L9.get 1 rfl), ?_⟩
    exact ⟨_, rfl, q a1 _ _ _ L9.ex (L9.get 2 rfl)⟩
  · obtain ⟨s0, t0, r0, u0, q0, hp, hs, hr0, hq0, ht, hu0⟩ := id sb
    have hr0 := hr0.sq (K := K)
    have hu0 := hu0.sq (K := K)
    refine ⟨nle' (by show 1 ≤ 1000; decide), fun a0 n0 => ?_⟩
    have L1 := (Lv.nil (Ex.refl H)).new (o := HO.lst [V.int 0]) n0
    generalize upd H a0 (HO.lst [V.int 0]) = G1 at L1 ⊢
    refine ⟨_, rfl, p, _, rfl, .inl (SqL.of (L1.ex _ _ hp)), a0, _, _, rfl, rfl, (L1.get 0 rfl), (by show -(2 ^ 63) ≤ (2 : Int); decide), (by show (2 : Int) < 2 ^ 63; decide), nle' (by show 2 ≤ 1000; decide), fun a1 n1 => ?_⟩
    have L2 := L1.new (o := HO.lst (List.replicate (Int.toNat ((([V.ref s0, V.ref t0] : List V).length : Nat) : Int)) [V.int 0]).flatten) n1
    generalize upd G1 a1 (HO.lst (List.replicate (Int.toNat ((([V.ref s0, V.ref t0] : List V).length : Nat) : Int)) [V.int 0]).flatten) = G2 at L2 ⊢
    refine ⟨_, rfl, p, rfl, .inr ⟨sb.mono L2.ex, fun b0 Hx xx ex => ?_⟩⟩
    have Lx := L2.ext xx
    have se : stepV [V.int 0, V.int 1] (-1) = [V.int 1, V.int 0] := by decide +kernel
    refine ⟨_, rfl, b0, [V.int 0, V.int 1], -1, rfl, rfl, by decide, SqL.of ex, fun c0 m0 => ?_⟩
    rw [se]
    have L3 := Lx.new (o := HO.lst [V.int 1, V.int 0]) m0
    generalize upd Hx c0 (HO.lst [V.int 1, V.int 0]) = G3 at L3 ⊢
    refine ⟨c0, rfl, ⟨_, (SqL.of (L3.get 0 rfl))⟩, for_listU (xs := [V.int 1, V.int 0]) ⟨(SqL.of (L3.get 0 rfl)), ?_⟩⟩
    refine ⟨_, rfl, _, rfl, p, _, 1, .ref t0, rfl, rfl, SqL.of (L3.ex _ _ hp), rfl, t0, _, rfl, SqT.of (L3.ex _ _ ht), rfl, _, _, rfl, _, _, rfl, rfl, ?_⟩
    refine ⟨_, rfl, .inr ⟨true, rfl, _, rfl, u0, rfl, ⟨_, (sq_mono L3.ex hu0)⟩, fun D hD => ?_⟩⟩
    have MD := L3.new (o := HO.lst []) hD
    refine lc_tupU (xs := []) ⟨(sq_mono MD.ex hu0), ?_⟩
    generalize upd G3 D (HO.lst []) = WD at MD ⊢
    refine ⟨D, [], rfl, (SqL.of (MD.get 0 rfl)), _, _, rfl, rfl, _, rfl, _, rfl, a1, [.int 0, .int 0], 1, 1, rfl, rfl, (MD.get 2 rfl), rfl, ?_⟩
    have L4 := MD.mut 2 (a := a1) (HO.lst ([V.int 0, V.int 0].set 1 (V.int (1 + 0)))) rfl
    refine L4.go (C := fun G => Fl _ _ _ _ _ _ G) fun G4 L4 => ?_
    refine ⟨(SqL.of (L4.get 1 rfl)), ?_⟩
    refine ⟨_, rfl, _, rfl, p, _, 0, .ref s0, rfl, rfl, SqL.of (L4.ex _ _ hp), rfl, s0, _, rfl, SqT.of (L4.ex _ _ hs), rfl, _, _, rfl, _, _, rfl, rfl, ?_⟩
    refine ⟨_, rfl, .inr ⟨false, rfl, _, rfl, r0, rfl, ⟨_, (sq_mono L4.ex hr0)⟩, fun E hE => ?_⟩⟩
    have ME := L4.new (o := HO.lst []) hE
    refine lc_tupU (xs := [.ref q0]) ⟨(sq_mono ME.ex hr0), q0, _, rfl, SqT.of (ME.ex _ _ hq0), rfl, _, _, rfl, _, _, rfl, rfl, rfl, tyes ⟨_, rfl, _, rfl, a1, [.int 0, .int (1 + 0)], 1, _, rfl, rfl, (SqL.of (ME.get 3 rfl)), rfl, [], (ME.get 0 rfl), Nat.lt_of_lt_of_le (show 0 < 1000 by decide) (nle' (Nat.le_refl _)), ?_⟩⟩
    generalize upd G4 E (HO.lst []) = WE at ME ⊢
    have L4 := ME.mut 0 (a := E) (HO.lst ([] ++ [V.int (1 + 0)])) rfl
    generalize upd WE E (HO.lst ([] ++ [V.int (1 + 0)])) = G4 at L4 ⊢
    refine ⟨(sq_mono L4.ex hr0), ?_⟩
    refine ⟨E, [1 + 0], rfl, (SqL.of (L4.get 0 rfl)), _, _, rfl, rfl, _, rfl, _, rfl, a1, [.int 0, .int (1 + 0)], 0, 0, rfl, rfl, (L4.get 3 rfl), rfl, ?_⟩
    have L9 := L4.mut 3 (a := a1) (HO.lst ([V.int 0, V.int (1 + 0)].set 0 (V.int (0 + List.sum [1 + 0])))) rfl
    refine ⟨SqL.of (L9.get 2 rfl), ?_⟩
    exact ⟨_, rfl, q a1 _ _ _ L9.ex (L9.get 3 rfl)⟩
end
end Sk

/-! The moves of the states of two small languages; how two small texts begin. -/
namespace Sk
open PySem PySem.Spec PyProof.Rows L2 Evl
abbrev NMov : List Str := ["states", "_", "steps"]
theorem scMov : FnScope NMov ["states"] (defScope sMoves) := ⟨rfl, rfl, rfl, by decide +kernel, rfl, by decide +kernel, by decide +kernel⟩
theorem scCom : FnScope ["first", "second", "size"] ["first", "second"] (defScope sCommon) := ⟨rfl, rfl, rfl, by decide +kernel, rfl, by decide +kernel, by decide +kernel⟩
def spMov : Sp := fun vs H Q _ => ∃ p, vs = [.ref p] ∧ St2 H p ∧ ∀ a H', Ex H H' → Q (.ref a) H'
def spCom : Sp := fun vs H Q _ => vs = [.str "", .str "a"] ∧ Q (.str "") H
section
variable {P : Program} {w : World} {K : PySem.W.Frag} {mg : Str → Option Value} {base : Heap} {f fA : Addr} {fd dA : FuncData}
theorem ok_mov {k : Nat} (F : Fun K "moves_of_states" "moves_of_states" sMoves f fd) (B : Blt mg) : FnOk P w K mg base CX0 (k + 1) f fd ["states"] spMov := by
  refine F.ok scMov (fun vs H Q E h => ?_) (fun cdv A outer s H vs Q E hr h => ?_)
  · obtain ⟨_, rfl, _⟩ := h
    rfl
  have nd := scMov.nd
  obtain ⟨p, rfl, h, q⟩ := h
  refine ⟨_, pss_one (ps_ret (pe_lst (StX.pa_star (pe_lc (own := [("_", 1), ("steps", 2)]) (g := gTup K 2 (gCons (gName 1) (gCons (gName 2) gNil))) (tt := tYes) (te := tCB (fun xs H Q => ∃ a, xs = [.ref a] ∧ ((Tq H a [] ∧ ∀ p, H p = none → Q (.ref p) (upd H p (.dK []))) ∨
    ∃ b z y, Tq H a [.ref b] ∧ SqT K H b [.str z, y] ∧ ∀ p, H p = none → Q (.ref p) (upd H p (.dK [(.inr z, y)])))) (tCons (tVar 2) tNil)) rfl nd (pi_list (pv 0)) (blkOk_by (N := NMov) (sc := defScope sMoves) (by decide +kernel))
          (fun _ _ _ _ _ => pg_tup rfl (pgs_cons (pg_name (i := 1) nd rfl (Or.inl rfl)) (pgs_cons (pg_name (i := 2) nd rfl (Or.inl rfl)) pgs_nil))) (fun _ _ _ _ _ => pts_nil) (fun _ _ _ _ _ => pe_callTy (call_dictT rfl) rfl B.dict bt_dict (pa_cons (pv 2) pa_nil))) (pa_cons pe_dnewK pa_nil)))), ?_⟩
  rcases h with h | h
  · obtain ⟨s0, r0, hp, hs, hr0⟩ := h
    refine ⟨_, rfl, p, rfl, ⟨_, SqL.of hp⟩, fun D hD => ?_⟩
    have M1 := (Lv.nil (Ex.refl H)).new (o := HO.lst []) hD
    refine lc_listU (xs := [.ref s0]) ⟨SqL.of (M1.ex _ _ hp), s0, _, rfl, SqT.of (M1.ex _ _ hs), rfl, _, _, rfl, _, _, rfl, rfl, rfl, tyes ⟨_, rfl, r0, rfl,  .inl ⟨(hr0.mono M1.ex), fun d1 m1 => ?_⟩⟩⟩
    have M2 := M1.new (o := HO.dK []) m1
    refine ⟨[], M2.get 1 rfl, Nat.lt_of_lt_of_le (show 0 < 1000 by decide) (nle' (Nat.le_refl _)), ?_⟩
    have M3 := M2.mut 1 (a := D) (HO.lst ([] ++ [V.ref d1])) rfl
    refine M3.go (C := fun G => Fc _ _ _ _ _ _ _ _ _ G) fun G3 M3 => ?_
    refine ⟨SqL.of (M3.ex _ _ hp), ?_⟩
    refine ⟨D, _, rfl, .inr (SqL.of (M3.get 1 rfl)), fun e1 k1 => ⟨nle' (by show 1+1 ≤ 1000; decide), fun l1 j1 => q l1 _ (M3.ex.trans ((Ex.new k1).trans (Ex.new j1)))⟩⟩
  · obtain ⟨s0, t0, r0, u0, q0, hp, hs, hr0, hq0, ht, hu0⟩ := h
    refine ⟨_, rfl, p, rfl, ⟨_, SqL.of hp⟩, fun D hD => ?_⟩
    have M1 := (Lv.nil (Ex.refl H)).new (o := HO.lst []) hD
    refine lc_listU (xs := [.ref s0, .ref t0]) ⟨SqL.of (M1.ex _ _ hp), s0, _, rfl, SqT.of (M1.ex _ _ hs), rfl, _, _, rfl, _, _, rfl, rfl, rfl, tyes ⟨_, rfl, r0, rfl,  .inr ⟨q0, "a", .int 1, (hr0.mono M1.ex), SqT.of (M1.ex _ _ hq0), fun d1 m1 => ?_⟩⟩⟩
    have M2 := M1.new (o := HO.dK [(.inr "a", V.int 1)]) m1
    refine ⟨[], M2.get 1 rfl, Nat.lt_of_lt_of_le (show 0 < 1000 by decide) (nle' (Nat.le_refl _)), ?_⟩
    have M3 := M2.mut 1 (a := D) (HO.lst ([] ++ [V.ref d1])) rfl
    refine M3.go (C := fun G => Fc _ _ _ _ _ _ _ _ _ G) fun G3 M3 => ?_
    refine ⟨SqL.of (M3.ex _ _ hp), t0, _, rfl, SqT.of (M3.ex _ _ ht), rfl, _, _, rfl, _, _, rfl, rfl, rfl, tyes ⟨_, rfl, u0, rfl,  .inl ⟨(hu0.mono M3.ex), fun d2 m2 => ?_⟩⟩⟩
    have M4 := M3.new (o := HO.dK []) m2
    refine ⟨[.ref d1], M4.get 2 rfl, Nat.lt_of_lt_of_le (show 1 < 1000 by decide) (nle' (Nat.le_refl _)), ?_⟩
    have M5 := M4.mut 2 (a := D) (HO.lst ([V.ref d1] ++ [V.ref d2])) rfl
    refine M5.go (C := fun G => Fc _ _ _ _ _ _ _ _ _ G) fun G5 M5 => ?_
    refine ⟨SqL.of (M5.ex _ _ hp), ?_⟩
    refine ⟨D, _, rfl, .inr (SqL.of (M5.get 2 rfl)), fun e1 k1 => ⟨nle' (by show 2+1 ≤ 1000; decide), fun l1 j1 => q l1 _ (M5.ex.trans ((Ex.new k1).trans (Ex.new j1)))⟩⟩
theorem ok_com {k : Nat} (F : Fun K "common_start" "common_start" sCommon f fd) (B : Blt mg) (B2 : Blt2 mg) : FnOk P w K mg base CX0 (k + 1) f fd ["first", "second"] spCom := by
  refine F.ok scCom (fun vs H Q E h => ?_) (fun cdv A outer s H vs Q E hr h => ?_)
  · obtain ⟨rfl, _⟩ := h
    rfl
  have nd := scCom.nd
  obtain ⟨rfl, q⟩ := h
  refine ⟨_, pss_cons (ps_set (i := 2) nd rfl (Or.inl rfl) pe_int)
    (pss_cons (ps_while PassesOwn.never (PW.pt (pw_and (pt_cmpR op_lt (pv 2) (pe_callB (call_min2 rfl) rfl B.min bt_min (pa_cons (pe_callB call_len_str rfl B.len PySem.boot_len (pa_cons (pv 0) pa_nil)) (pa_cons (pe_callB call_len_str rfl B.len PySem.boot_len (pa_cons (pv 1) pa_nil)) pa_nil))) (nomark _)) (pw_and1 (pt_cmpR op_eq (pe_ix ix_str (pv 0) (pv 2) (fun _ _ => rfl)) (pe_ix ix_str (pv 1) (pv 2) (fun _ _ => rfl)) (nomark _)))))
      (pss_one (ps_aug (i := 2) nd rfl (Or.inl rfl) pe_int ip_add)))
    (pss_one (ps_ret (pe_slice sl_str (pv 0) po_none (po_some (pv 2)))))), ?_⟩
  refine ⟨fun m σ H' => σ = [some (.str ""), some (.str "a"), some (.int 0)] ∧ H' = H, ⟨0, rfl, rfl⟩, ?_⟩
  rintro m σ H' ⟨rfl, rfl⟩
  refine ⟨_, rfl, _, rfl, "", rfl, by decide +kernel, _, rfl, "a", rfl, by decide +kernel, _, _, rfl, _, _, rfl, rfl, false, rfl, iteF (iteF ?_)⟩
  exact ⟨_, rfl, _, rfl, 0, rfl, "", rfl, by decide +kernel, q⟩
end
end Sk

/-! A dict of which the one key is the tuple (True, ()). -/
namespace Sk
open PySem PySem.Spec PyProof.Rows L2 Evl
def NkO (a : Addr) (o : Obj) : HO := .ext fun h => h.get? a = some o
def keyTE : NestedKey := .tup [.num 1, .tup []]
def NEmp (a : Addr) (o : Obj) : Prop := o.ExactDict ∧ (∃ ep, o.data = .dict #[] ep) ∧ (a == sysModules) = false
def NOne (w : World) (a : Addr) (o : Obj) (b : Addr) (n : Int) : Prop := o.ExactDict ∧ (∃ es ep t, o.data = .dict es ep ∧ es.toList = [⟨keyTE.hash w, .ref b, .int n t⟩]) ∧ (a == sysModules) = false
def KeyAt (H : Hp) (b : Addr) : Prop := ∃ e, H b = some (.tup [.bl true, .ref e]) ∧ H e = some (.tup [])
theorem nkO_ok {P : Program} {w : World} {H : Hp} {h : Heap} {a : Addr} {o : Obj} (x : h.get? a = some o) : ObjOk P w H h a (NkO a o) := ⟨x, ⟨o, x⟩, fun _ _ q k => k o q⟩
section
variable {X : Cx} {pins : List (Addr × Obj)} {σ : L2.St} {H : Hp} {s : Shared}
theorem nkO_inv {a : Addr} {o : Obj} (I : Inv X pins σ H s) (h : H a = some (NkO a o)) : s.heap.get? a = some o := (show ObjOk X.prog X.w H s.heap a (NkO a o) from I.hok _ _ h).1
theorem keyAt_is {b : Addr} (I : Inv X pins σ H s) (h : KeyAt H b) : NestedIs s.heap keyTE (.ref b) ∧ keyTE.depth ≤ 8 := by
  obtain ⟨e, h1, h2⟩ := h
  obtain ⟨_, its, rv, o, g, c, n, d⟩ := (show ObjOk X.prog X.w H s.heap b (.tup [.bl true, .ref e]) from I.hok _ _ h1)
  obtain ⟨_, it2, rv2, o2, g2, c2, n2, d2⟩ := (show ObjOk X.prog X.w H s.heap e (.tup []) from I.hok _ _ h2)
  obtain ⟨u1, u2, rfl, r1, r2⟩ := vals2 rv
  cases rv2
  cases (show u1 = Value.bool true from r1)
  cases (show u2 = Value.ref e from r2)
  exact ⟨.tup g c d (.cons (.bool rfl) (.cons (.tup g2 c2 d2 .nil) .nil)), by decide⟩
theorem nEmp_dict {a : Addr} {o : Obj} (I : Inv X pins σ H s) (h : H a = some (NkO a o)) (e : NEmp a o) : s.heap.DictOfH (nestedKind X.prog X.w) a [] := by
  obtain ⟨x, ⟨ep, d⟩, _⟩ := e
  exact ⟨o, #[], ep, nkO_inv I h, x, d, rfl, (fun _ m => nomatch m), List.nodup_nil⟩
theorem nOne_dict {a b : Addr} {o : Obj} {n : Int} (I : Inv X pins σ H s) (h : H a = some (NkO a o)) (e : NOne X.w a o b n) (k : KeyAt H b) : ∃ t, s.heap.DictOfH (nestedKind X.prog X.w) a [(keyTE, b, .int n t)] := by
  obtain ⟨x, ⟨es, ep, t, d, el⟩, _⟩ := e
  exact ⟨t, o, es, ep, nkO_inv I h, x, d, el, (fun y m => by cases List.mem_singleton.mp m; exact keyAt_is I k), by simp⟩
end
/-- {}, to hold such a key -/
def tDNewN : TE := fun _ H Q => ∀ p o, H p = none → NEmp p o → Q (.ref p) (upd H p (NkO p o))
theorem pe_dnewN {X : Cx} {pos : Pos} : PE X (.Dict [] [] pos) tDNewN := ⟨fun pins s σ H Q I h => by
  have e : NEmp s.heap.objs.size ({ cls := .type "dict", data := .dict #[] } : Obj) := ⟨⟨rfl, rfl, rfl⟩, ⟨_, rfl⟩, beq_eq_false_iff_ne.mpr (Ne.symm (Nat.ne_of_lt I.big))⟩
  exact wpAny_Dict_empty ⟨.ref s.heap.objs.size, _, I.laid (a := s.heap.objs.size) (o := NkO _ _) (t' := s.toks) (fun _ _ q => Heap.get?_push_of_some _ q) (Nat.le_refl _) (nkO_ok (Heap.get?_push_size _ rfl)), rfl, h _ _ (I.hok.fresh (Nat.le_refl _)) e⟩⟩
section
variable {X : Cx}
theorem op_notInN (hu : X.A.units + 64 < cLine) : OpR X (compareOp .NotIn) (fun x y H Q => ∃ d o b, x = .ref b ∧ y = .ref d ∧ H d = some (NkO d o) ∧ NEmp d o ∧ KeyAt H b ∧ Q (.bl true) H) := by
  intro pins s σ H x y v u Q I rx ry h
  obtain ⟨d, o, b, rfl, rfl, hd, e, k, q⟩ := h
  cases (show v = Value.ref b from rx)
  cases (show u = Value.ref d from ry)
  exact wpAny_notIn_heap (knd := nestedKind X.prog X.w) (k := keyTE) (xs := []) (show X.A.units + 1 + 8 < cLine by omega) (keyAt_is I k) e.2.2 (nEmp_dict I hd e) ⟨.bl true, H, I.tok _, rfl, q⟩
theorem set_nk (hu : X.A.units + 64 < cLine) : PSet X (fun o i v H Q => ∃ d ob b n, o = .ref d ∧ i = .ref b ∧ v = .int n ∧ H d = some (NkO d ob) ∧ NEmp d ob ∧ KeyAt H b ∧ ∀ o2, NOne X.w d o2 b n → Q (upd H d (NkO d o2))) := by
  intro pins s σ H o i v ov iv u Q I ro ri rv h
  obtain ⟨d, ob, b, n, rfl, rfl, rfl, hd, e, k, q⟩ := h
  cases (show ov = Value.ref d from ro)
  cases (show iv = Value.ref b from ri)
  obtain ⟨t, rfl⟩ := rv
  refine wpAny_setItem_heap (knd := nestedKind X.prog X.w) (k := keyTE) (xs := []) (show X.A.units + 1 + 8 < cLine by omega) (keyAt_is I k) (nEmp_dict I hd e) (fun h' dd hs => ?_) (Nat.zero_le _)
  obtain ⟨o2, es, ep, ho, hx, hdt, he, his, hn⟩ := dd
  exact ⟨_, d_write I (by rw [hd]; exact True.intro) hs ⟨o2, ho⟩ (nkO_ok ho), q o2 ⟨hx, ⟨es, ep, t, hdt, he⟩, e.2.2⟩⟩
theorem ix_nk (hu : X.A.units + 64 < cLine) : IxR X (fun x y H Q => ∃ d ob b n, x = .ref d ∧ y = .ref b ∧ H d = some (NkO d ob) ∧ NOne X.w d ob b n ∧ KeyAt H b ∧ Q (.int n) H) := by
  intro value slice pins s σ H x y v u Q I rx ry h hs
  obtain ⟨d, ob, b, n, rfl, rfl, hd, e, k, q⟩ := h
  cases (show v = Value.ref d from rx)
  cases (show u = Value.ref b from ry)
  obtain ⟨t, dd⟩ := nOne_dict I hd e k
  exact subscriptTail_builtinR (x := .int n t) dd.typeIs slot_dict_getitem.lookup (wpAny_getItem_heap (knd := nestedKind X.prog X.w) (k := keyTE) (p := (b, .int n t)) (Q := fun r s' => r = .int n t ∧ EP X pins σ Q r s') (show X.A.units + 1 + 8 < cLine by omega) (keyAt_is I k) dd (by simp [atKey]) ⟨rfl, .int n, H, I.tok _, ⟨t, rfl⟩, q⟩) hs
end
end Sk
namespace Sk
open PySem PySem.Spec PyProof.Rows L2 Evl
theorem lc_strU {x : Str} {g : TG} {tt : TT} {te : TE} {vs : List Nat} {σ : L2.St} {H1 : Hp} {D : Addr} {Qd : Hp → Prop} (h : Fc (fun _ => True) g tt te vs σ D Qd (x.cps.toList.map fun c => V.str ⟨#[c]⟩) (upd H1 D (.lst []))) :
    ∃ W : Nat → Nat → Hp → Prop, (∃ m, W 0 m (upd H1 D (.lst []))) ∧ ∀ i m H, W i m H →
      ((Its x).stop i H ∧ Qd H) ∨ ((Its x).go i H ∧ ∃ Nx : Hp → Prop, (∀ H', Nx H' → ∃ m', m' < m ∧ W (i + 1) m' H') ∧ ∀ y H', (Its x).yld i H y H' → g y (wipe σ vs) H' fun σ2 H2 => wipe σ2 vs = wipe σ vs ∧ tt σ2 H2 fun b H3 =>
        if b = true then te σ2 H3 fun y H4 => ∃ acc, H4 D = some (.lst acc) ∧ acc.length < sizeLine ∧ Nx (upd H4 D (.lst (acc ++ [y]))) else Nx H3) :=
  lc_it walk_str (fun i H => Fc (fun _ => True) g tt te vs σ D Qd ((x.cps.toList.map fun c => V.str ⟨#[c]⟩).drop i) H) h (fun _ _ _ _ => trivial)
    (fun i y H1 H2 hi p wv => by
      obtain ⟨rfl, c, hc, rfl⟩ := wv
      have e : (x.cps.toList.map fun c => V.str ⟨#[c]⟩)[i]? = some (V.str ⟨#[c]⟩) := by
        rw [List.getElem?_map, Array.getElem?_toList, hc]
        rfl
      rw [drop_at e] at p
      exact p.2)
    (fun H p => by
      rw [List.drop_eq_nil_of_le (by rw [List.length_map]; exact Nat.le_of_eq (by simp))] at p
      exact p.2)
end Sk

/-! The states of two small lists of texts. -/
namespace Sk
open PySem PySem.Spec PyProof.Rows L2 Evl
abbrev NTex : List Str := ["texts", "states", "numbers", "before", "opened", "text", "shared", "accepting", "steps", "told", "_"]
theorem scTex : FnScope NTex ["texts"] (defScope sTexts) := ⟨rfl, rfl, rfl, by decide +kernel, rfl, by decide +kernel, by decide +kernel⟩
def spTex : Sp := fun vs H Q _ => ∃ l, vs = [.ref l] ∧ (H l = some (.lst []) ∨ H l = some (.lst [.str "a"])) ∧ ∀ a H', Ex H H' → St2 H' a → Q (.ref a) H'
section
variable {P : Program} {w : World} {K : PySem.W.Frag} {mg : Str → Option Value} {base : Heap} {f fC fR : Addr} {fd dC dR : FuncData}
theorem ok_tex (F : Fun K "states_of_texts" "states_of_texts" sTexts f fd) (B : Blt mg) (B2 : Blt2 mg) (Cm : Lt P w K mg base fC dC "common_start" ["first", "second"] 1 spCom) (Rn : Lt P w K mg base fR dR "renumbered" ["states", "first"] 1 spRen) : FnOk P w K mg base CX0 2 f fd ["texts"] spTex := by
  refine F.ok scTex (fun vs H Q E h => ?_) (fun cdv A outer s H vs Q E hr h => ?_)
  · obtain ⟨_, rfl, _⟩ := h
    rfl
  have nd := scTex.nd
  have hu : (A.deeper (envOfC "states_of_texts" (defScope sTexts) s.heap.objs.size f cdv)).units + 64 < cLine := hr.units
  obtain ⟨l, rfl, h, q⟩ := h
  refine ⟨_, pss_cons (ps_set (i := 1) nd rfl (Or.inl rfl) (pe_lst pa_nil))
    (pss_cons (ps_set (i := 2) nd rfl (Or.inl rfl) pe_dnewN)
    (pss_cons (ps_set (i := 3) nd rfl (Or.inl rfl) pe_str)
    (pss_cons (ps_set (i := 4) nd rfl (Or.inl rfl) (pe_lst (pa_cons (pe_tup (pa_cons pe_bl (pa_cons (pe_lst pa_nil) pa_nil))) pa_nil)))
    (pss_cons (ps_for PassesOwn.never rfl (pi_list (pe_lst (StX.pa_star (pe_callB cr_sortedS rfl B.sorted boot_sorted (pa_cons (pv 0) pa_nil)) (pa_cons pe_non pa_nil)))) (pg_name (i := 5) nd rfl (Or.inl rfl))
      (pss_cons (ps_set (i := 6) nd rfl (Or.inl rfl) (pe_ifExp (pt_cmpR op_isN (pv 5) pe_non (nomark _)) pe_int (pe_callB call_len_str rfl B.len PySem.boot_len (pa_cons (pe_call Cm.g hr rfl Cm.m Cm.k Cm.b .nil pass0 (pa_cons (pv 3) (pa_cons (pv 5) pa_nil))) pa_nil))))
      (pss_cons (ps_while PassesOwn.never (pt_cmpR op_gt (pe_callB call_len_seq rfl B.len PySem.boot_len (pa_cons (pv 4) pa_nil)) (pe_op op_add (pv 6) pe_int) (nomark _))
        (pss_cons (ps_asg (pe_bm0 PySem.F.plainAttrs_list PySem.F.slot_list_pop PySem.F.type_list_pop mt_pop (pv 4)) (pg_tup rfl (pgs_cons (pg_name (i := 7) nd rfl (Or.inl rfl)) (pgs_cons (pg_name (i := 8) nd rfl (Or.inl rfl)) pgs_nil))))
        (pss_cons (ps_set (i := 9) nd rfl (Or.inl rfl) (pe_tup (pa_cons (pv 7) (pa_cons (pe_callTy call_tuple_of rfl B2.tuple bt_tuple (pa_cons (pv 8) pa_nil)) pa_nil))))
        (pss_cons (ps_if (pt_cmpR (op_notInN hu) (pv 9) (pv 2) (by with_unfolding_all rfl))
          (pss_cons (ps_asg (pe_callB call_len_seq rfl B.len PySem.boot_len (pa_cons (pv 1) pa_nil)) (pg_sub (pv 2) (pv 9) (set_nk hu)))
          (pss_one (ps_expr (pe_bm PySem.F.plainAttrs_list PySem.F.slot_list_append PySem.F.type_list_append mt_append (pv 1) (pa_cons (pv 9) pa_nil))))) pss_nil)
        (pss_one (ps_expr (pe_bm PySem.F.plainAttrs_list PySem.F.slot_list_append PySem.F.type_list_append mt_append (pe_ix ix_tup (pe_ix ix_list (pv 4) (pe_un un_neg pe_int) (fun _ _ => rfl)) pe_int (fun _ _ => rfl)) (pa_cons (pe_tup (pa_cons (pe_ix ix_str (pv 3) (pe_op op_sub (pe_callB call_len_seq rfl B.len PySem.boot_len (pa_cons (pv 4) pa_nil)) pe_int) (fun _ _ => rfl)) (pa_cons (pe_ix (ix_nk hu) (pv 2) (pv 9) (fun _ _ => rfl)) pa_nil))) pa_nil))))))))
      (pss_one (ps_if (pt_cmpR op_notN (pv 5) pe_non (nomark _))
        (pss_cons (ps_expr (pe_bm PySem.F.plainAttrs_list PySem.F.slot_list_extend PySem.F.type_list_extend mt_extend (pv 4) (pa_cons (pe_lc (own := [("_", 10)]) (g := gName 10) (tt := tYes) (te := tTup (tCons (tC (.bl false)) (tCons (tLst tNil) tNil))) rfl nd (pi_str (pe_slice sl_str (pv 5) (po_some (pv 6)) po_none)) (blkOk_by (N := NTex) (sc := defScope sTexts) (by decide +kernel))
            (fun _ _ _ _ _ => pg_name (i := 10) nd rfl (Or.inl rfl)) (fun _ _ _ _ _ => pts_nil) (fun _ _ _ _ _ => pe_tup (pa_cons pe_bl (pa_cons (pe_lst pa_nil) pa_nil)))) pa_nil)))
        (pss_cons (ps_asg (pe_tup (pa_cons pe_bl (pa_cons (pe_ix ix_tup (pe_ix ix_list (pv 4) (pe_un un_neg pe_int) (fun _ _ => rfl)) pe_int (fun _ _ => rfl)) pa_nil))) (pg_sub (pv 4) (pe_un un_neg pe_int) set_list))
        (pss_one (ps_set (i := 3) nd rfl (Or.inl rfl) (pv 5))))) pss_nil)))))
    (pss_cons (ps_expr (pe_bm PySem.F.plainAttrs_list PySem.F.slot_list_append PySem.F.type_list_append mt_append (pv 1) (pa_cons (pe_tup (pa_cons (pe_ix ix_tup (pe_ix ix_list (pv 4) pe_int (fun _ _ => rfl)) pe_int (fun _ _ => rfl)) (pa_cons (pe_callTy call_tuple_of rfl B2.tuple bt_tuple (pa_cons (pe_ix ix_tup (pe_ix ix_list (pv 4) pe_int (fun _ _ => rfl)) pe_int (fun _ _ => rfl)) pa_nil)) pa_nil))) pa_nil)))
    (pss_one (ps_ret (pe_call Rn.g hr rfl Rn.m Rn.k Rn.b .nil pass0 (pa_cons (pv 1) (pa_cons (pe_op op_sub (pe_callB call_len_seq rfl B.len PySem.boot_len (pa_cons (pv 1) pa_nil)) pe_int) pa_nil)))))))))), ?_⟩
  rcases h with hl | hl
  · refine ⟨nle' (by show 0 ≤ 1000; decide), fun a1 n1 => ?_⟩
    have L1 := (Lv.nil (Ex.refl H)).new (o := HO.lst []) n1
    generalize upd H a1 (HO.lst []) = G1 at L1 ⊢
    intro a2 o2 n2 d2
    have L2 := L1.new (o := NkO a2 o2) n2
    generalize upd G1 a2 (NkO a2 o2) = G2 at L2 ⊢
    refine ⟨nle' (by show 0 ≤ 1000; decide), fun b0 m0 => ?_⟩
    have L3 := L2.new (o := HO.lst []) m0
    generalize upd G2 b0 (HO.lst []) = G3 at L3 ⊢
    refine ⟨nle' (by show 2 ≤ 1000; decide), fun t0 k0 => ?_⟩
    have L4 := L3.new (o := HO.tup [V.bl false, V.ref b0]) k0
    generalize upd G3 t0 (HO.tup [V.bl false, V.ref b0]) = G4 at L4 ⊢
    refine ⟨nle' (by show 1 ≤ 1000; decide), fun a4 n4 => ?_⟩
    have L5 := L4.new (o := HO.lst [V.ref t0]) n4
    generalize upd G4 a4 (HO.lst [V.ref t0]) = G5 at L5 ⊢
    refine ⟨_, rfl, l, [], rfl, SqL.of (L5.ex _ _ hl), by decide, fun ys c0 pe so j0 => ?_⟩
    obtain rfl : ys = [] := pe.eq_nil
    have L6 := L5.new (o := HO.lst (([] : List Str).map V.str)) j0
    generalize upd G5 c0 (HO.lst (([] : List Str).map V.str)) = G6 at L6 ⊢
    refine ⟨c0, _, rfl, .inr (SqL.of (L6.get 0 rfl)), nle' (by show 1 ≤ 1000; decide), fun c1 j1 => ?_⟩
    have L7 := L6.new (o := HO.lst (([] : List Str).map V.str ++ [V.non])) j1
    generalize upd G6 c1 (HO.lst (([] : List Str).map V.str ++ [V.non])) = G7 at L7 ⊢
    refine ⟨c1, rfl, ⟨_, (SqL.of (L7.get 0 rfl))⟩, for_listU (xs := [V.non]) ⟨(SqL.of (L7.get 0 rfl)), ?_⟩⟩
    refine ⟨_, rfl, rfl, true, rfl, iteT ?_⟩
    refine while_n (mon_test (mon_op mon_I0 (mon_len mon_var) (mon_op mon_I0 mon_var mon_c))) 0 ?_
    refine ⟨_, rfl, a4, [.ref t0], rfl, .inl (SqL.of (L7.get 2 rfl)), _, rfl, _, _, rfl, rfl, _, _, rfl, rfl, false, rfl, rfl, ?_⟩
    refine ⟨_, rfl, rfl, false, rfl, iteF ?_⟩
    refine ⟨(SqL.of (L7.get 0 rfl)), ?_⟩
    refine ⟨_, rfl, Or.inl ⟨rfl, _, (SqL.of (L7.get 6 rfl))⟩, _, rfl, a4, [.ref t0], 0, .ref t0, rfl, rfl, (SqL.of (L7.get 2 rfl)), rfl, t0, [.bl false, .ref b0], 0, .bl false, rfl, rfl, SqT.of (L7.get 3 rfl), rfl, _, rfl, a4, [.ref t0], 0, .ref t0, rfl, rfl, (SqL.of (L7.get 2 rfl)), rfl, t0, [.bl false, .ref b0], 1, .ref b0, rfl, rfl, SqT.of (L7.get 3 rfl), rfl, b0, ([] : List V), rfl, .inl ⟨(SqL.of (L7.get 4 rfl)), fun e1 k1 => ?_⟩⟩
    have L8 := L7.new (o := HO.tup ([] : List V)) k1
    generalize upd G7 e1 (HO.tup ([] : List V)) = G8 at L8 ⊢
    refine ⟨nle' (by show 2 ≤ 1000; decide), fun e2 k2 => ?_⟩
    have L9 := L8.new (o := HO.tup [V.bl false, V.ref e1]) k2
    generalize upd G8 e2 (HO.tup [V.bl false, V.ref e1]) = G9 at L9 ⊢
    refine ⟨a1, ([] : List V), .ref e2, rfl, rfl, (L9.get 8 rfl), Nat.lt_of_lt_of_le (show 0 < 1000 by decide) (nle' (Nat.le_refl _)), ?_⟩
    have L10 := L9.mut 8 (a := a1) (HO.lst (([] : List V) ++ [V.ref e2])) rfl
    generalize upd G9 a1 (HO.lst (([] : List V) ++ [V.ref e2])) = G10 at L10 ⊢
    refine ⟨_, rfl, _, rfl, a1, _, rfl, .inl (SqL.of (L10.get 8 rfl)), _, _, rfl, rfl, a1, fun p' H' x' s' => q p' H' (L10.ex.trans x') s', ?_⟩
    exact .inl ⟨rfl, e2, e1, (L10.get 8 rfl), (L10.get 0 rfl), (L10.get 1 rfl)⟩
  · refine ⟨nle' (by show 0 ≤ 1000; decide), fun a1 n1 => ?_⟩
    have L1 := (Lv.nil (Ex.refl H)).new (o := HO.lst []) n1
    generalize upd H a1 (HO.lst []) = G1 at L1 ⊢
    intro a2 o2 n2 d2
    have L2 := L1.new (o := NkO a2 o2) n2
    generalize upd G1 a2 (NkO a2 o2) = G2 at L2 ⊢
    refine ⟨nle' (by show 0 ≤ 1000; decide), fun b0 m0 => ?_⟩
    have L3 := L2.new (o := HO.lst []) m0
    generalize upd G2 b0 (HO.lst []) = G3 at L3 ⊢
    refine ⟨nle' (by show 2 ≤ 1000; decide), fun t0 k0 => ?_⟩
    have L4 := L3.new (o := HO.tup [V.bl false, V.ref b0]) k0
    generalize upd G3 t0 (HO.tup [V.bl false, V.ref b0]) = G4 at L4 ⊢
    refine ⟨nle' (by show 1 ≤ 1000; decide), fun a4 n4 => ?_⟩
    have L5 := L4.new (o := HO.lst [V.ref t0]) n4
    generalize upd G4 a4 (HO.lst [V.ref t0]) = G5 at L5 ⊢
    refine ⟨_, rfl, l, ([("a" : Str)] : List Str), rfl, SqL.of (L5.ex _ _ hl), by decide, fun ys c0 pe so j0 => ?_⟩
    obtain rfl : ys = ([("a" : Str)] : List Str) := List.perm_singleton.mp pe
    have L6 := L5.new (o := HO.lst ((([("a" : Str)] : List Str) : List Str).map V.str)) j0
    generalize upd G5 c0 (HO.lst ((([("a" : Str)] : List Str) : List Str).map V.str)) = G6 at L6 ⊢
    refine ⟨c0, _, rfl, .inr (SqL.of (L6.get 0 rfl)), nle' (by show 2 ≤ 1000; decide), fun c1 j1 => ?_⟩
    have L7 := L6.new (o := HO.lst ((([("a" : Str)] : List Str) : List Str).map V.str ++ [V.non])) j1
    generalize upd G6 c1 (HO.lst ((([("a" : Str)] : List Str) : List Str).map V.str ++ [V.non])) = G7 at L7 ⊢
    refine ⟨c1, rfl, ⟨_, (SqL.of (L7.get 0 rfl))⟩, for_listU (xs := [V.str "a", V.non]) ⟨(SqL.of (L7.get 0 rfl)), ?_⟩⟩
    refine ⟨_, rfl, rfl, false, rfl, iteF ⟨_, rfl, _, rfl, rfl, "", rfl, by decide +kernel, ?_⟩⟩
    refine while_n (mon_test (mon_op mon_I0 (mon_len mon_var) (mon_op mon_I0 mon_var mon_c))) 0 ?_
    refine ⟨_, rfl, a4, [.ref t0], rfl, .inl (SqL.of (L7.get 2 rfl)), _, rfl, _, _, rfl, rfl, _, _, rfl, rfl, false, rfl, rfl, ?_⟩
    refine ⟨_, rfl, rfl, true, rfl, iteT ?_⟩
    refine ⟨_, rfl, Or.inl ⟨rfl, _, (SqL.of (L7.get 2 rfl))⟩, _, rfl, _, rfl, _, rfl, "a", rfl, by decide +kernel, _, rfl, fun D hD => ?_⟩
    have ec : cutS "a" (some ((("" : Str).length : Nat) : Int)) none = "a" := by decide +kernel
    rw [ec]
    have MD := L7.new (o := HO.lst []) hD
    refine lc_strU (x := "a") ⟨trivial, rfl, tyes ⟨nle' (by show 0 ≤ 1000; decide), fun b1 m1 => ?_⟩⟩
    have L8 := MD.new (o := HO.lst []) m1
    generalize upd (upd G7 D (HO.lst [])) b1 (HO.lst []) = G8 at L8 ⊢
    refine ⟨nle' (by show 2 ≤ 1000; decide), fun t1 k1 => ?_⟩
    have L9 := L8.new (o := HO.tup [V.bl false, V.ref b1]) k1
    generalize upd G8 t1 (HO.tup [V.bl false, V.ref b1]) = G9 at L9 ⊢
    refine ⟨[], (L9.get 2 rfl), Nat.lt_of_lt_of_le (show 0 < 1000 by decide) (nle' (Nat.le_refl _)), ?_⟩
    have L10 := L9.mut 2 (a := D) (HO.lst ([] ++ [V.ref t1])) rfl
    generalize upd G9 D (HO.lst ([] ++ [V.ref t1])) = G10 at L10 ⊢
    refine ⟨trivial, ?_⟩
    refine ⟨a4, D, [.ref t0], [.ref t1], rfl, rfl, (L10.get 5 rfl), (L10.get 2 rfl), nle' (by show 2 ≤ 1000; decide), ?_⟩
    have L11 := L10.mut 5 (a := a4) (HO.lst ([V.ref t0] ++ [V.ref t1])) rfl
    generalize upd G10 a4 (HO.lst ([V.ref t0] ++ [V.ref t1])) = G11 at L11 ⊢
    refine ⟨_, rfl, _, rfl, a4, [.ref t0, .ref t1], -1, .ref t1, rfl, rfl, (SqL.of (L11.get 5 rfl)), rfl, t1, [.bl false, .ref b1], 1, .ref b1, rfl, rfl, SqT.of (L11.get 0 rfl), rfl, nle' (by show 2 ≤ 1000; decide), fun t2 k2 => ?_⟩
    have L12 := L11.new (o := HO.tup [V.bl true, V.ref b1]) k2
    generalize upd G11 t2 (HO.tup [V.bl true, V.ref b1]) = G12 at L12 ⊢
    refine ⟨_, rfl, _, rfl, a4, [.ref t0, .ref t1], -1, 1, rfl, rfl, (L12.get 6 rfl), rfl, ?_⟩
    have L13 := L12.mut 6 (a := a4) (HO.lst ([V.ref t0, V.ref t1].set 1 (V.ref t2))) rfl
    generalize upd G12 a4 (HO.lst ([V.ref t0, V.ref t1].set 1 (V.ref t2))) = G13 at L13 ⊢
    refine ⟨_, rfl, ?_⟩
    refine ⟨(SqL.of (L13.get 4 rfl)), ?_⟩
    refine ⟨_, rfl, rfl, true, rfl, iteT ?_⟩
    refine while_n (mon_test (mon_op mon_I0 (mon_len mon_var) (mon_op mon_I0 mon_var mon_c))) 1 ?_
    refine ⟨_, rfl, a4, [.ref t0, .ref t2], rfl, .inl (SqL.of (L13.get 6 rfl)), _, rfl, _, _, rfl, rfl, _, _, rfl, rfl, true, rfl, iteT ?_⟩
    refine ⟨_, rfl, Or.inl ⟨rfl, _, (SqL.of (L13.get 6 rfl))⟩, a4, [.ref t0, .ref t2], .ref t2, rfl, rfl, (L13.get 6 rfl), rfl, ?_⟩
    have L14 := L13.mut 6 (a := a4) (HO.lst ([V.ref t0, V.ref t2].dropLast)) rfl
    generalize upd G13 a4 (HO.lst ([V.ref t0, V.ref t2].dropLast)) = G14 at L14 ⊢
    refine ⟨t2, _, rfl, SqT.of (L14.get 0 rfl), rfl, _, _, rfl, _, _, rfl, rfl, ?_⟩
    refine ⟨_, rfl, _, rfl, b1, [], rfl, .inl ⟨(SqL.of (L14.get 2 rfl)), fun e0 j2 => ?_⟩⟩
    have L15 := L14.new (o := HO.tup []) j2
    generalize upd G14 e0 (HO.tup []) = G15 at L15 ⊢
    refine ⟨nle' (by show 2 ≤ 1000; decide), fun td j3 => ?_⟩
    have L16 := L15.new (o := HO.tup [V.bl true, V.ref e0]) j3
    generalize upd G15 td (HO.tup [V.bl true, V.ref e0]) = G16 at L16 ⊢
    refine ⟨_, rfl, _, rfl, a2, o2, td, rfl, rfl, (L16.get 11 rfl), d2, ⟨e0, (L16.get 0 rfl), (L16.get 1 rfl)⟩, true, rfl, iteT ?_⟩
    refine ⟨_, rfl, a1, [], rfl, .inl (SqL.of (L16.get 12 rfl)), _, rfl, _, rfl, a2, o2, td, _, rfl, rfl, rfl, (L16.get 11 rfl), d2, ⟨e0, (L16.get 0 rfl), (L16.get 1 rfl)⟩, fun o3 d3 => ?_⟩
    have L17 := L16.mut 11 (a := a2) (NkO a2 o3) rfl
    generalize upd G16 a2 (NkO a2 o3) = G17 at L17 ⊢
    refine ⟨_, rfl, Or.inl ⟨rfl, _, (SqL.of (L17.get 12 rfl))⟩, _, rfl, a1, [], .ref td, rfl, rfl, (L17.get 12 rfl), Nat.lt_of_lt_of_le (show 0 < 1000 by decide) (nle' (Nat.le_refl _)), ?_⟩
    have L18 := L17.mut 12 (a := a1) (HO.lst ([] ++ [V.ref td])) rfl
    generalize upd G17 a1 (HO.lst ([] ++ [V.ref td])) = G18 at L18 ⊢
    refine ⟨_, rfl, _, rfl, a4, [.ref t0], -1, .ref t0, rfl, rfl, (SqL.of (L18.get 8 rfl)), rfl, t0, [.bl false, .ref b0], 1, .ref b0, rfl, rfl, SqT.of (L18.get 9 rfl), rfl, Or.inl ⟨rfl, _, (SqL.of (L18.get 10 rfl))⟩, _, rfl, _, rfl, a4, [.ref t0], rfl, .inl (SqL.of (L18.get 8 rfl)), _, _, rfl, rfl, "a", 0, 97, rfl, rfl, by decide +kernel, rfl, _, rfl, _, rfl, a2, o3, td, _, rfl, rfl, (L18.get 11 rfl), d3, ⟨e0, (L18.get 0 rfl), (L18.get 1 rfl)⟩, nle' (by show 2 ≤ 1000; decide), fun t5 k5 => ?_⟩
    have L19 := L18.new (o := HO.tup [V.str ⟨#[97]⟩, V.int ((([] : List V).length : Nat) : Int)]) k5
    generalize upd G18 t5 (HO.tup [V.str ⟨#[97]⟩, V.int ((([] : List V).length : Nat) : Int)]) = G19 at L19 ⊢
    refine ⟨b0, [], .ref t5, rfl, rfl, (L19.get 11 rfl), Nat.lt_of_lt_of_le (show 0 < 1000 by decide) (nle' (Nat.le_refl _)), ?_⟩
    have L20 := L19.mut 11 (a := b0) (HO.lst ([] ++ [V.ref t5])) rfl
    generalize upd G19 b0 (HO.lst ([] ++ [V.ref t5])) = G20 at L20 ⊢
    refine ⟨_, rfl, a4, [.ref t0], rfl, .inl (SqL.of (L20.get 9 rfl)), _, rfl, _, _, rfl, rfl, _, _, rfl, rfl, false, rfl, rfl, ?_⟩
    refine ⟨_, rfl, rfl, false, rfl, iteF ?_⟩
    refine ⟨(SqL.of (L20.get 7 rfl)), ?_⟩
    refine ⟨_, rfl, Or.inl ⟨rfl, _, (SqL.of (L20.get 13 rfl))⟩, _, rfl, a4, [.ref t0], 0, .ref t0, rfl, rfl, (SqL.of (L20.get 9 rfl)), rfl, t0, [.bl false, .ref b0], 0, .bl false, rfl, rfl, SqT.of (L20.get 10 rfl), rfl, _, rfl, a4, [.ref t0], 0, .ref t0, rfl, rfl, (SqL.of (L20.get 9 rfl)), rfl, t0, [.bl false, .ref b0], 1, .ref b0, rfl, rfl, SqT.of (L20.get 10 rfl), rfl, b0, [V.ref t5], rfl, .inl ⟨(SqL.of (L20.get 11 rfl)), fun e1 k1 => ?_⟩⟩
    have L21 := L20.new (o := HO.tup [V.ref t5]) k1
    generalize upd G20 e1 (HO.tup [V.ref t5]) = G21 at L21 ⊢
    refine ⟨nle' (by show 2 ≤ 1000; decide), fun e2 k2 => ?_⟩
    have L22 := L21.new (o := HO.tup [V.bl false, V.ref e1]) k2
    generalize upd G21 e2 (HO.tup [V.bl false, V.ref e1]) = G22 at L22 ⊢
    refine ⟨a1, [V.ref td], .ref e2, rfl, rfl, (L22.get 15 rfl), Nat.lt_of_lt_of_le (show 1 < 1000 by decide) (nle' (Nat.le_refl _)), ?_⟩
    have L23 := L22.mut 15 (a := a1) (HO.lst ([V.ref td] ++ [V.ref e2])) rfl
    generalize upd G22 a1 (HO.lst ([V.ref td] ++ [V.ref e2])) = G23 at L23 ⊢
    refine ⟨_, rfl, _, rfl, a1, _, rfl, .inl (SqL.of (L23.get 15 rfl)), _, _, rfl, rfl, a1, fun p' H' x' s' => q p' H' (L23.ex.trans x') s', ?_⟩
    exact .inr ⟨rfl, e2, td, e1, e0, t5, (L23.get 15 rfl), (L23.get 0 rfl), (L23.get 1 rfl), (L23.get 2 rfl), (L23.get 3 rfl), (L23.get 4 rfl)⟩
end
end Sk

/-! Two small languages made. -/
namespace Sk
open PySem PySem.Spec PyProof.Rows L2 Evl
abbrev sLInit : Stmt := inClass (topS 69) 0
abbrev sListed : Stmt := inClass (topS 69) 2
abbrev sLEq : Stmt := inClass (topS 69) 8
theorem scLIni : FnScope ["self", "states"] ["self", "states"] (defScope sLInit) := ⟨rfl, rfl, rfl, by decide +kernel, rfl, by decide +kernel, by decide +kernel⟩
theorem scLst : FnScope ["cls", "texts"] ["cls", "texts"] (defScope sListed) := ⟨rfl, rfl, rfl, by decide +kernel, rfl, by decide +kernel, by decide +kernel⟩
theorem scLEq : FnScope ["self", "other"] ["self", "other"] (defScope sLEq) := ⟨rfl, rfl, rfl, by decide +kernel, rfl, by decide +kernel, by decide +kernel⟩
structure LgT (K : PySem.W.Frag) (mg : Str → Option Value) (C : Addr) : Prop where
  cl : Cls K C
  n1 : NoAttr K C "_states"
  n2 : NoAttr K C "_moves"
  n3 : NoAttr K C "_many"
  n4 : NoAttr K C "count"
  n5 : NoAttr K C "_kept_net"
  mC : mg "Language" = some (.ref C)
  hCl : PySem.W.findIn K (.ref C) "__class__" = some (some (.builtin "object.__class__"))
  hGt : PySem.W.specialIn K (.builtin "object.__class__") "__get__" = some (some (.builtin "getset_descriptor.__get__"))
  hTk : PySem.W.takesIn K (.builtin "object.__class__") = some true
  hOb : PySem.W.mroIn K C (.type "object") = some true
  kit : PySem.W.kitOne K (.ref C) (.ref C) = some true
/-- a language -/
def LgAt (C : Addr) (H : Hp) (x : Addr) : Prop := ∃ dx fs l as, H x = some (.ins C dx fs) ∧ fs.lookup ("_states" : Str) = some (.ref l) ∧ H l = some (.lst (List.map V.ref as))
theorem LgAt.mono {C : Addr} {H H' : Hp} {x : Addr} (e : Ex H H') (h : LgAt C H x) : LgAt C H' x := let ⟨dx, fs, l, ws, a, b, c⟩ := h; ⟨dx, fs, l, ws, e _ _ a, b, e _ _ c⟩
theorem St2.mono {H H' : Hp} {p : Addr} (x : Ex H H') (h : St2 H p) : St2 H' p := h.imp (StA.mono x) (StB.mono x)
theorem St2.list {H : Hp} {p : Addr} (h : St2 H p) : ∃ as, H p = some (.lst (List.map V.ref as)) := by
  rcases h with ⟨s, r, h, _⟩ | ⟨s, t, r, u, q, h, _⟩
  · exact ⟨[s], h⟩
  · exact ⟨[s, t], h⟩
theorem eq_refs {K : PySem.W.Frag} {H : Hp} : ∀ as : List Addr, Paired (EqV K H 1) (as.map V.ref) (as.map V.ref)
  | [] => .nil
  | a :: as => .cons (.inr (.inl ⟨a, rfl, rfl⟩)) (eq_refs as)
def spLin (C : Addr) : Sp := fun vs H Q _ => ∃ (p a dx : Addr), vs = [.ref p, .ref a] ∧ H p = some (.ins C dx []) ∧ St2 (Hd p H) a ∧ ∀ H', Ex (Hd p H) H' → LgAt C H' p → Q .non H'
def spLst (C : Addr) : Sp := fun vs H Q _ => ∃ l, vs = [.ref C, .ref l] ∧ (H l = some (.lst []) ∨ H l = some (.lst [.str "a"])) ∧ ∀ x H', Ex H H' → H x = none → LgAt C H' x → Q (.ref x) H'
def spLEq (C : Addr) : Sp := fun vs H Q _ => ∃ x, vs = [.ref x, .ref x] ∧ LgAt C H x ∧ Q (.bl true) H
section
variable {P : Program} {w : World} {K : PySem.W.Frag} {mg : Str → Option Value} {base : Heap} {f fM fN fT fi C : Addr} {fd dM dN dT fid : FuncData}
theorem ok_lin (F : Fun K "__init__" "Language.__init__" sLInit f fd) (B : Blt mg) (T : LgT K mg C) (Mv : Lt P w K mg base fM dM "moves_of_states" ["states"] 1 spMov) (Ct : Lt P w K mg base fN dN "counts_of" ["states"] 2 spCnt) : FnOk P w K mg base CX0 3 f fd ["self", "states"] (spLin C) := by
  refine F.ok scLIni (fun vs H Q E h => ?_) (fun cdv A outer s H vs Q E hr h => ?_)
  · obtain ⟨_, _, _, rfl, _⟩ := h
    rfl
  have nd := scLIni.nd
  have hr1 : Room 1 _ := hr.mono (by decide)
  obtain ⟨p, a, dx, rfl, hp, sa, q⟩ := h
  refine ⟨_, pss_cons (ps_fld (pv 0) (pe_callTy call_list_of rfl B.list bt_list (pa_cons (pv 1) pa_nil)) rfl)
    (pss_cons (ps_fld (pv 0) (pe_call Mv.g hr1 rfl Mv.m Mv.k Mv.b .nil pass0 (pa_cons (pv 1) pa_nil)) rfl)
    (pss_cons (ps_fld (pv 0) (pe_call Ct.g hr rfl Ct.m Ct.k Ct.b .nil pass0 (pa_cons (pv 1) pa_nil)) rfl)
    (pss_cons (ps_fld (pv 0) (pe_ix ix_list (pe_fld (pv 0) rfl) pe_int (fun _ _ => rfl)) rfl)
    (pss_one (ps_fld (pv 0) pe_non rfl))))), ?_⟩
  obtain ⟨as, ha⟩ := sa.list
  obtain ⟨ws, hw⟩ : ∃ ws, ws = List.map V.ref as := ⟨_, rfl⟩
  rw [← hw] at ha
  have L0 : Lv (Hd p H) H [(p, .ins C dx [])] := ⟨by simp, (fun z m => by cases List.mem_singleton.mp m; exact hp), (fun z m => by cases List.mem_singleton.mp m; exact if_pos rfl), hd_le⟩
  refine ⟨_, rfl, a, ws, rfl, .inl (SqL.of (L0.ex _ _ ha)), fun l nl => ?_⟩
  have L1 := L0.new (o := HO.lst ws) nl
  generalize upd H l (HO.lst ws) = G1 at L1 ⊢
  refine ⟨_, rfl, p, C, dx, [], rfl, L1.get 1 rfl, T.cl, T.n1, (by show 0 < 1000; decide), ?_⟩
  have L2 := L1.mut 1 (a := p) (HO.ins C dx (putF "_states" (.ref l) [])) rfl
  generalize upd G1 p (HO.ins C dx (putF "_states" (.ref l) [])) = G2 at L2 ⊢
  refine ⟨_, rfl, a, rfl, sa.mono L2.ex, fun m Hm xm => ?_⟩
  have L3 := L2.ext xm
  refine ⟨_, rfl, p, C, dx, _, rfl, L3.get 1 rfl, T.cl, T.n2, (by show 1 < 1000; decide), ?_⟩
  have L4 := L3.mut 1 (a := p) (HO.ins C dx (putF "_moves" (.ref m) (putF "_states" (.ref l) []))) rfl
  generalize upd Hm p (HO.ins C dx (putF "_moves" (.ref m) (putF "_states" (.ref l) []))) = G4 at L4 ⊢
  refine ⟨_, rfl, a, rfl, sa.mono L4.ex, fun c n ns Hc xc ec => ?_⟩
  have L5 := L4.ext xc
  have cp : c ≠ p := fun z => by
    have := L5.get 1 (a := p) rfl
    rw [z, this] at ec
    cases ec
  refine ⟨_, rfl, p, C, dx, _, rfl, L5.get 1 rfl, T.cl, T.n3, (by show 2 < 1000; decide), ?_⟩
  have L6 := L5.mut 1 (a := p) (HO.ins C dx (putF "_many" (.ref c) (putF "_moves" (.ref m) (putF "_states" (.ref l) [])))) rfl
  have ec6 : upd Hc p (HO.ins C dx (putF "_many" (.ref c) (putF "_moves" (.ref m) (putF "_states" (.ref l) [])))) c = some (.lst (.int n :: ns)) := by rw [upd_ne cp]; exact ec
  generalize upd Hc p (HO.ins C dx (putF "_many" (.ref c) (putF "_moves" (.ref m) (putF "_states" (.ref l) [])))) = G6 at L6 ec6 ⊢
  refine ⟨_, rfl, p, C, dx, _, .ref c, rfl, L6.get 1 rfl, T.cl, T.n3, by rw [lookup_putF, if_pos rfl], c, _, 0, .int n, rfl, rfl, SqL.of ec6, atI_nat (j := 0) rfl, _, rfl, p, C, dx, _, rfl, L6.get 1 rfl, T.cl, T.n4, (by show 3 < 1000; decide), ?_⟩
  have L7 := L6.mut 1 (a := p) (HO.ins C dx (putF "count" (.int n) (putF "_many" (.ref c) (putF "_moves" (.ref m) (putF "_states" (.ref l) []))))) rfl
  generalize upd G6 p (HO.ins C dx (putF "count" (.int n) (putF "_many" (.ref c) (putF "_moves" (.ref m) (putF "_states" (.ref l) []))))) = G7 at L7 ⊢
  refine ⟨_, rfl, p, C, dx, _, rfl, L7.get 1 rfl, T.cl, T.n5, (by show 4 < 1000; decide), ?_⟩
  have L8 := L7.mut 1 (a := p) (HO.ins C dx (putF "_kept_net" .non (putF "count" (.int n) (putF "_many" (.ref c) (putF "_moves" (.ref m) (putF "_states" (.ref l) [])))))) rfl
  exact q _ L8.ex ⟨dx, _, l, as, L8.get 1 rfl, by rw [lookup_putF, if_neg (by decide +kernel), lookup_putF, if_neg (by decide +kernel), lookup_putF, if_neg (by decide +kernel), lookup_putF, if_neg (by decide +kernel), lookup_putF, if_pos rfl], hw ▸ L8.get 0 rfl⟩
theorem ok_lst (F : Fun K "listed" "Language.listed" sListed f fd) (M : Mk K C fi) (Gi : FnOk P w K mg base CX0 3 fi fid ["self", "states"] (spLin C)) (bi : Binds K fid ["self", "states"] []) (Tx : Lt P w K mg base fT dT "states_of_texts" ["texts"] 2 spTex) : FnOk P w K mg base CX0 5 f fd ["cls", "texts"] (spLst C) := by
  refine F.ok scLst (fun vs H Q E h => ?_) (fun cdv A outer s H vs Q E hr h => ?_)
  · obtain ⟨_, rfl, _⟩ := h
    rfl
  have nd := scLst.nd
  have hr2 : Room 2 _ := hr.mono (by decide)
  obtain ⟨l, rfl, hl, q⟩ := h
  refine ⟨_, pss_one (ps_ret (pe_makeL (i := 0) M Gi hr rfl (Or.inl rfl) bi .nil pass0 (pa_cons (pe_call Tx.g hr2 rfl Tx.m Tx.k Tx.b .nil pass0 (pa_cons (pv 1) pa_nil)) pa_nil))), ?_⟩
  refine ⟨rfl, _, rfl, l, rfl, hl, fun a H1 x1 s1 => ?_⟩
  intro x dx nx ndx ne
  obtain ⟨e1, e2⟩ := mk_ex (C := C) nx ndx
  refine ⟨x, a, dx, rfl, upd_same, s1.mono e2, fun H2 x2 g => ⟨rfl, ?_⟩⟩
  exact q x H2 (x1.trans (e2.trans x2)) (ex_none' x1 nx) g
theorem ok_leq (F : Fun K "__eq__" "Language.__eq__" sLEq f fd) (B : Blt mg) (T : LgT K mg C) : FnOk P w K mg base CX0 1 f fd ["self", "other"] (spLEq C) := by
  refine F.ok scLEq (fun vs H Q E h => ?_) (fun cdv A outer s H vs Q E hr h => ?_)
  · obtain ⟨_, rfl, _⟩ := h
    rfl
  have nd := scLEq.nd
  have hu : (A.deeper (envOfC "Language.__eq__" (defScope sLEq) s.heap.objs.size f cdv)).units + 64 < cLine := hr.units
  obtain ⟨x, rfl, ⟨dx, fs, l, ws, h1, h2, h3⟩, q⟩ := h
  refine ⟨_, pss_one (ps_ret (pe_and (pe_callB call_isi rfl B.isi bt_isi (pa_cons (pv 1) (pa_cons (pe_glob (v := .ref C) rfl T.mC rfl) pa_nil))) (pe_one (pe_cmpR (op_eqV hu) (pe_fld (pv 0) rfl) (pe_fld (pv 1) rfl) (nomark _))))), ?_⟩
  refine ⟨_, rfl, .ref x, .ref C, _, _, true, rfl, .own C, .base (.ins h1 T.cl T.hCl T.hGt T.hTk T.hOb), T.kit, true, rfl, iteT ?_⟩
  refine ⟨_, rfl, x, C, dx, _, _, rfl, h1, T.cl, T.n1, h2, _, rfl, x, C, dx, _, _, rfl, h1, T.cl, T.n1, h2, 1, by decide, .inl ⟨l, l, _, _, rfl, rfl, SqL.of h3, SqL.of h3, eq_refs ws⟩, q⟩
end
end Sk

/-! Objects of the package are refused. -/
namespace Sk
open PySem PySem.Spec PyProof.Rows L2 Evl
theorem opR_or {X : Cx} {f : Value → Value → Sem Value} {r r2 : R2} (h : OpR X f r) (h2 : OpR X f r2) : OpR X f (fun x y H Q => r x y H Q ∨ r2 x y H Q) := fun pins s σ H x y v u Q I rx ry q => q.elim (h pins s σ H x y v u Q I rx ry) (h2 pins s σ H x y v u Q I rx ry)
abbrev NRef : List Str := ["things", "thing", "caught"]
theorem scRef : FnScope NRef [] (defScope sRefused) := ⟨rfl, rfl, rfl, by decide +kernel, rfl, by decide +kernel, by decide +kernel⟩
structure Cl2 (P : Program) (w : World) (K : PySem.W.Frag) (mg : Str → Option Value) (base : Heap) (C L : Addr) : Prop where
  S : ScM K mg C
  T : LgT K mg L
  kep : ∃ p g mc, ClX.CRead K C mc ∧ ClX.CMet K C mc "kept" p g ∧ FnR P w K mg base CX0 6 g (spKep C)
  lis : ∃ p g mc, ClX.CRead K L mc ∧ ClX.CMet K L mc "listed" p g ∧ FnR P w K mg base CX0 5 g (spLst L)
  eqS : ∃ g, PySem.W.findIn K (.ref C) "__eq__" = some (some (.ref g)) ∧ PySem.W.isFn K (.ref g) = true ∧ FnR P w K mg base CX0 3 g (spEqT C)
  eqL : ∃ g, PySem.W.findIn K (.ref L) "__eq__" = some (some (.ref g)) ∧ PySem.W.isFn K (.ref g) = true ∧ FnR P w K mg base CX0 1 g (spLEq L)
  kS : PySem.W.kitAny K (.ref C) [.type "list", .type "tuple"] = some false
  kL : PySem.W.kitAny K (.ref L) [.type "list", .type "tuple"] = some false
theorem els_nil {K : PySem.W.Frag} {H : Hp} : Els K H [] [] := ⟨rfl, fun i v h => by simp at h⟩
theorem els_cons {K : PySem.W.Frag} {H : Hp} {v : V} {b : Bool} {vs : List V} {bs : List Bool} (h : El K H v b) (t : Els K H vs bs) : Els K H (v :: vs) (b :: bs) := ⟨by simp [t.1], fun i u hu => by
  cases i with
  | zero => cases hu; exact ⟨b, rfl, h⟩
  | succ i => exact t.2 i u hu⟩
def spRef : Sp := fun vs H Q _ => vs = [] ∧ ∀ H', Ex H H' → Q (.bl true) H'
section
variable {P : Program} {w : World} {K : PySem.W.Frag} {mg : Str → Option Value} {base : Heap} {f fT C L : Addr} {fd dT : FuncData}
theorem ok_ref (F : Fun K "_law_objects_refused" "_law_objects_refused" sRefused f fd) (Z : Cl2 P w K mg base C L) (To : Lt P w K mg base fT dT "_law_told" ["thing"] 7 (spTold K C)) : FnOk P w K mg base CX0 8 f fd [] spRef := by
  refine F.ok scRef (fun vs H Q E h => ?_) (fun cdv A outer s H vs Q E hr h => ?_)
  · obtain ⟨rfl, _⟩ := h
    rfl
  have nd := scRef.nd
  have hr6 : Room 6 _ := hr.mono (by decide)
  have hr5 : Room 5 _ := hr.mono (by decide)
  have hr3 : Room 3 _ := hr.mono (by decide)
  have hr1 : Room 1 _ := hr.mono (by decide)
  have hu : (A.deeper (envOfC "_law_objects_refused" (defScope sRefused) s.heap.objs.size f cdv)).units + 64 < cLine := hr.units
  obtain ⟨rfl, q⟩ := h
  obtain ⟨kp, kg, kmc, kR, kM, kF⟩ := Z.kep
  obtain ⟨lp, lg, lmc, lR, lM, lF⟩ := Z.lis
  obtain ⟨eg, e1, e2, eF⟩ := Z.eqS
  obtain ⟨mg2, m1, m2, mF⟩ := Z.eqL
  have T := Z.S.T
  refine ⟨_, pss_cons (ps_set (i := 0) nd rfl (Or.inl rfl) (pe_lst (pa_cons (ClX.pe_cmeth (pe_glob (v := .ref C) rfl T.mC rfl) kR kM kF hr6 pass0 (pa_cons pe_str pa_nil))
      (pa_cons (ClX.pe_cmeth (pe_glob (v := .ref L) rfl Z.T.mC rfl) lR lM lF hr5 pass0 (pa_cons (pe_lst (pa_cons pe_str pa_nil)) pa_nil))
      (pa_cons (pe_lst (pa_cons (ClX.pe_cmeth (pe_glob (v := .ref C) rfl T.mC rfl) kR kM kF hr6 pass0 (pa_cons pe_str pa_nil)) pa_nil))
      (pa_cons (pe_lst (pa_cons (pe_tup (pa_cons pe_str (pa_cons pe_str pa_nil))) (pa_cons (ClX.pe_cmeth (pe_glob (v := .ref L) rfl Z.T.mC rfl) lR lM lF hr5 pass0 (pa_cons (pe_lst pa_nil) pa_nil)) pa_nil))) pa_nil))))))
    (pss_cons (ps_for PassesOwn.never rfl (pi_list (pv 0)) (pg_name (i := 1) nd rfl (Or.inl rfl))
      (pss_cons (ps_set (i := 2) nd rfl (Or.inl rfl) (pe_ix ix_tup (pe_call To.g hr rfl To.m To.k To.b .nil pass0 (pa_cons (pv 1) pa_nil)) pe_int (fun _ _ => rfl)))
      (pss_one (ps_if (PW.pt (pw_or (pt_cmpR op_isN (pv 2) pe_non (nomark _)) (pw_or1 (pt_not (pt_cmpR (opR_or (op_cmpI (E := E0) (fun _ _ => rfl) e1 e2 eF hr3 pass0) (opR_or (op_cmpI (E := E0) (fun _ _ => rfl) m1 m2 mF hr1 pass0) (op_eqV hu))) (pe_ix ix_list (pv 2) pe_int (fun _ _ => rfl)) (pv 1) (nomark _)))))) (pss_one (ps_ret pe_bl)) pss_nil))))
    (pss_one (ps_ret pe_bl))), ?_⟩
  have tyS : ∀ {H' : Hp} {x : Addr} {es : List (Ed Nat)}, ScAt C H' x es → TyX K H' (.ref x) (.ref C) := fun ⟨dx, t, us, h1, _, _⟩ => .base (.ins h1 T.cl Z.S.hCl Z.S.hGt Z.S.hTk Z.S.hOb)
  have tyL : ∀ {H' : Hp} {x : Addr}, LgAt L H' x → TyX K H' (.ref x) (.ref L) := fun ⟨dx, fs, l, as, h1, _, _⟩ => .base (.ins h1 Z.T.cl Z.T.hCl Z.T.hGt Z.T.hTk Z.T.hOb)
  refine ⟨rfl, [97], rfl, by decide, fun x1 H1 y1 u1 s1 => ?_⟩
  refine ⟨rfl, nle' (by show 1 ≤ 1000; decide), fun l1 n1 => ⟨l1, rfl, .inr upd_same, fun x2 H2 y2 u2 g2 => ?_⟩⟩
  have s1 := s1.mono ((Ex.new n1).trans y2)
  have z2 := y1.trans ((Ex.new n1).trans y2)
  refine ⟨rfl, [97], rfl, by decide, fun x3 H3 y3 u3 s3 => ⟨nle' (by show 1 ≤ 1000; decide), fun l3 n3 => ?_⟩⟩
  have e3 := Ex.new (o := HO.lst [.ref x3]) n3
  have f3 : upd H3 l3 (HO.lst [.ref x3]) l3 = some (.lst [.ref x3]) := upd_same
  have s1 := (s1.mono y3).mono e3
  have g2 := (g2.mono y3).mono e3
  have s3 := s3.mono e3
  have z3 := z2.trans (y3.trans e3)
  generalize upd H3 l3 (HO.lst [.ref x3]) = G3 at e3 f3 s1 g2 s3 z3 ⊢
  refine ⟨nle' (by show 2 ≤ 1000; decide), fun t4 n4 => ⟨rfl, nle' (by show 0 ≤ 1000; decide), fun l4 m4 => ⟨l4, rfl, .inl upd_same, fun x5 H5 y5 u5 g5 => ⟨nle' (by show 2 ≤ 1000; decide), fun l6 n6 => ⟨nle' (by show 4 ≤ 1000; decide), fun Tl nT => ?_⟩⟩⟩⟩⟩
  have w4 := (Ex.new m4).trans y5
  have f4 := w4 _ _ (upd_same (H := G3) (a := t4) (o := HO.tup [.str "keep", .str "a"]))
  have w5 := (Ex.new n4).trans w4
  have e6 := Ex.new (o := HO.lst [.ref t4, .ref x5]) n6
  have f6 : upd H5 l6 (HO.lst [.ref t4, .ref x5]) l6 = some (.lst [.ref t4, .ref x5]) := upd_same
  have eT := Ex.new (o := HO.lst [.ref x1, .ref x2, .ref l3, .ref l6]) nT
  have fT : upd (upd H5 l6 (HO.lst [.ref t4, .ref x5])) Tl (HO.lst [.ref x1, .ref x2, .ref l3, .ref l6]) Tl = some (.lst [.ref x1, .ref x2, .ref l3, .ref l6]) := upd_same
  have e7 := e6.trans eT
  have w7 := w5.trans e7
  have f6 := eT _ _ f6
  have f4 := e7 _ _ f4
  have f3 := w7 _ _ f3
  have g5 := g5.mono e7
  have s1 := s1.mono w7
  have g2 := g2.mono w7
  have s3 := s3.mono w7
  have z7 := z3.trans w7
  generalize upd (upd H5 l6 (HO.lst [.ref t4, .ref x5])) Tl (HO.lst [.ref x1, .ref x2, .ref l3, .ref l6]) = G at fT f6 f4 f3 g5 s1 g2 s3 z7 ⊢
  clear e6 eT e7 w7 w5 w4 e3
  refine ⟨_, rfl, Tl, rfl, ⟨_, SqL.of fT⟩, for_listU (xs := [.ref x1, .ref x2, .ref l3, .ref l6]) ⟨SqL.of fT, ?_⟩⟩
  refine ⟨_, rfl, .ref x1, rfl, .inr ⟨.inl ⟨.ref C, fun H' x => tyS (s1.mono x), Z.kS⟩, fun r c Ga xa ec er => ⟨r, _, 1, .ref c, rfl, rfl, SqT.of er, rfl, ?_⟩⟩⟩
  obtain ⟨dx, t, us, h1, h2, h3⟩ := s1.mono xa
  refine ⟨_, rfl, rfl, false, rfl, iteF ⟨_, rfl, c, _, 0, .ref x1, rfl, rfl, SqL.of ec, rfl, _, rfl, .inl ⟨x1, x1, dx, dx, _, _, rfl, rfl, h1, h1, x1, x1, _, rfl, ⟨dx, t, us, h1, h2, h3⟩, ⟨dx, t, us, h1, h2, h3⟩, fun G1 xb => ⟨true, rfl, iteF ?_⟩⟩⟩⟩
  have x1' := xa.trans xb
  refine ⟨SqL.of (x1' _ _ fT), ?_⟩
  refine ⟨_, rfl, .ref x2, rfl, .inr ⟨.inl ⟨.ref L, fun H' x => tyL (g2.mono (x1'.trans x)), Z.kL⟩, fun r c Gb xc ec er => ⟨r, _, 1, .ref c, rfl, rfl, SqT.of er, rfl, ?_⟩⟩⟩
  have x2' := x1'.trans xc
  obtain ⟨dx2, fs2, la, as, k1, k2, k3⟩ := g2.mono x2'
  refine ⟨_, rfl, rfl, false, rfl, iteF ⟨_, rfl, c, _, 0, .ref x2, rfl, rfl, SqL.of ec, rfl, _, rfl, .inr (.inl ⟨x2, x2, dx2, dx2, _, _, rfl, rfl, k1, k1, x2, rfl, ⟨dx2, fs2, la, as, k1, k2, k3⟩, true, rfl, iteF ?_⟩)⟩⟩
  refine ⟨SqL.of (x2' _ _ fT), ?_⟩
  refine ⟨_, rfl, .ref l3, rfl, .inr ⟨.inr ⟨l3, _, [false], rfl, .inl (x2' _ _ f3), els_cons (.inr ⟨.ref C, fun H' x => tyS (s3.mono (x2'.trans x)), kitA2 Z.kS, rfl⟩) els_nil, (by show 1 ≤ 100000; decide), rfl⟩, fun r c Gc xd ec er => ⟨r, _, 1, .ref c, rfl, rfl, SqT.of er, rfl, ?_⟩⟩⟩
  have x3' := x2'.trans xd
  refine ⟨_, rfl, rfl, false, rfl, iteF ⟨_, rfl, c, _, 0, .ref l3, rfl, rfl, SqL.of ec, rfl, _, rfl, .inr (.inr ⟨1, by decide, .inl ⟨l3, l3, _, _, rfl, rfl, SqL.of (x3' _ _ f3), SqL.of (x3' _ _ f3), eq_refs [x3]⟩, true, rfl, iteF ?_⟩)⟩⟩
  refine ⟨SqL.of (x3' _ _ fT), ?_⟩
  refine ⟨_, rfl, .ref l6, rfl, .inr ⟨.inr ⟨l6, _, [true, false], rfl, .inl (x3' _ _ f6), els_cons (.inl ⟨.tuple [.str "keep", .str "a"], .tup (x3' _ _ f4) (.cons (.str _) (.cons (.str _) .nil)), fts_ed (.keep 97), rfl⟩) (els_cons (.inr ⟨.ref L, fun H' x => tyL (g5.mono (x3'.trans x)), kitA2 Z.kL, rfl⟩) els_nil), (by show 2 ≤ 100000; decide), rfl⟩, fun r c Gd xe ec er => ⟨r, _, 1, .ref c, rfl, rfl, SqT.of er, rfl, ?_⟩⟩⟩
  have x4' := x3'.trans xe
  refine ⟨_, rfl, rfl, false, rfl, iteF ⟨_, rfl, c, _, 0, .ref l6, rfl, rfl, SqL.of ec, rfl, _, rfl, .inr (.inr ⟨1, by decide, .inl ⟨l6, l6, _, _, rfl, rfl, SqL.of (x4' _ _ f6), SqL.of (x4' _ _ f6), eq_refs [t4, x5]⟩, true, rfl, iteF ?_⟩)⟩⟩
  refine ⟨SqL.of (x4' _ _ fT), ?_⟩
  exact q _ (z7.trans x4')
end
end Sk

/-! The law. -/
namespace Sk
open PySem PySem.Spec PyProof.Rows L2 Evl
abbrev NLaw : List Str := ["script", "start_v", "stream", "turn", "thing"]
theorem scLaw : FnScope NLaw ["script"] (defScope sLaw) := ⟨rfl, rfl, rfl, by decide +kernel, rfl, by decide +kernel, by decide +kernel⟩
def spLaw (K : PySem.W.Frag) : Sp := fun vs H Q _ => ∃ (a : Addr) (ns : List Int), vs = [.ref a] ∧ SqL K H a (ns.map V.int) ∧ ns.length ≤ 63 ∧ (∀ z ∈ ns, Builtin.Int.intBits z ≤ 1048576) ∧ ∀ H', Q (.bl true) H'
theorem ex_hd {U H : Hp} {p : Addr} (x : Ex U H) (n : U p = none) : Ex U (Hd p H) := fun b o e => hd_of (ne_of_none e n) (x _ _ e)
section
variable {P : Program} {w : World} {K : PySem.W.Frag} {mg : Str → Option Value} {base : Heap} {fL fS fT fR fF : Addr} {dL dS dT dR dF : FuncData}
theorem ok_law (F : Fun K "law" "law" sLaw fL dL) (B : Blt mg)
    (St : Lt P w K mg base fS dS "_law_stream" ["script", "start_v"] 1 (spStream K))
    (Th : Lt P w K mg base fT dT "_law_things" ["stream"] 4 (spThings K))
    (Rr : FnG P w K mg base 8 fR dR ["thing"] (spRight K)) (bR : Binds K dR ["thing"] []) (kR : PySem.W.keepIn K (.ref fR) = true) (mR : mg "_law_right" = some (.ref fR))
    (Rf : Lt P w K mg base fF dF "_law_objects_refused" [] 8 spRef) :
    LawOk P w K mg base fL dL "script" (spLaw K) := by
  refine law_of (k := 8) F scLaw ⟨rfl, by decide, by decide⟩ fun cdv s H v Q hr hg h => ?_
  have nd := scLaw.nd
  have hu : (callerA.deeper (envOfC "law" (defScope sLaw) s.heap.objs.size fL cdv)).units + 64 < cLine := hr.units
  have hu0 : (callerA.deeper (envOfC "law" (defScope sLaw) s.heap.objs.size fL cdv)).units < cLine := Nat.lt_of_le_of_lt (Nat.le_add_right _ 64) hr.units
  have hr1 : Room 1 _ := hr.mono (by decide)
  have hr4 : Room 4 _ := hr.mono (by decide)
  obtain ⟨a, ns, ev, hS, h63, hb, q⟩ := h
  cases ev
  refine ⟨_, pss_cons (ps_for PassesOwn.never rfl (pi_range1 rfl B.range (pa_cons (pe_callB (call_max2 rfl) rfl B.max bt_max (pa_cons pe_int (pa_cons (pe_callB (call_min2 rfl) rfl B.min bt_min (pa_cons pe_int (pa_cons (pe_callB call_len_seq rfl B.len PySem.boot_len (pa_cons (pv 0) pa_nil)) pa_nil))) pa_nil))) pa_nil)) (pg_name (i := 1) nd rfl (Or.inl rfl))
      (pss_cons (ps_set (i := 2) nd rfl (Or.inl rfl) (pe_call St.g hr1 rfl St.m St.k St.b .nil pass0 (pa_cons (pv 0) (pa_cons (pv 1) pa_nil))))
      (pss_one (ps_for PassesOwn.never rfl (pi_range1 rfl B.range (pa_cons pe_int pa_nil)) (pg_name (i := 3) nd rfl (Or.inl rfl))
        (pss_one (ps_if (pt_cmpR (op_neNil hu0) (pe_lc (own := [("thing", 4)]) (g := gName 4) rfl nd (pi_list (pe_call Th.g hr4 rfl Th.m Th.k Th.b .nil pass0 (pa_cons (pv 2) pa_nil))) (blkOk_by (N := NLaw) (sc := defScope sLaw) (by decide +kernel)) (fun _ _ _ _ _ => pg_name (i := 4) nd rfl (Or.inl rfl))
            (fun _ _ _ _ _ => pts_one (pt_not (pt_val (pe_callG hg Rr hr rfl mR kR bR pass0 (pa_cons (pv 4) pa_nil))))) (fun _ _ _ _ _ => pv 4)) (pe_lst pa_nil) (nomark _)) (pss_one (ps_ret pe_bl)) pss_nil))))))
    (pss_one (ps_ret (pe_and (pe_callG hg Rr hr rfl mR kR bR pass0 (pa_cons (pe_lst pa_nil) pa_nil)) (pe_and (pe_callG hg Rr hr rfl mR kR bR pass0 (pa_cons (pe_tup pa_nil) pa_nil)) (pe_and (pe_callG hg Rr hr rfl mR kR bR pass0 (pa_cons pe_str pa_nil)) (pe_one (pe_call0 Rf.g hr rfl Rf.m Rf.k Rf.b .nil pass0))))))), ?_⟩
  have lns : (ns.map V.int).length = ns.length := List.length_map _
  refine ⟨_, rfl, a, _, rfl, .inl hS, _, _, rfl, _, _, rfl, ?_⟩
  have mm : ∃ m : Nat, m ≤ 4 ∧ (if (if (((ns.map V.int).length : Nat) : Int) < 4 then (((ns.map V.int).length : Nat) : Int) else 4) > 1 then (if (((ns.map V.int).length : Nat) : Int) < 4 then (((ns.map V.int).length : Nat) : Int) else 4) else 1) = (m : Int) := by
    rw [lns]
    by_cases h4 : ((ns.length : Nat) : Int) < 4
    · rw [if_pos h4]
      by_cases h1 : ((ns.length : Nat) : Int) > 1
      · rw [if_pos h1]; exact ⟨ns.length, by omega, rfl⟩
      · rw [if_neg h1]; exact ⟨1, by omega, rfl⟩
    · rw [if_neg h4]; exact ⟨4, by omega, rfl⟩
  obtain ⟨m, m4, em⟩ := mm
  rw [em]
  refine ⟨_, rfl, by omega, by omega, for_range (lo := 0) (n := m) (fun i σ H2 => SqL K H2 a (ns.map V.int) ∧ ∃ y1 y2 y3 y4, σ = [some (.ref a), y1, y2, y3, y4]) ⟨hS, none, none, none, none, rfl⟩ (fun j σ H0 hj p => ?_) (fun σ H2 p => ?_)⟩
  · obtain ⟨p0, y1, y2, y3, y4, rfl⟩ := p
    refine ⟨_, rfl, _, rfl, a, ns, _, rfl, p0, h63, hb, by omega, by omega, fun st H1 nst E1 S1 => ?_⟩
    have s1 : SqL K (Hd st H1) a (ns.map V.int) := by
      refine ex_l (H := H0) (fun b o e => hd_of ?_ (E1 b o e)) p0
      intro z; subst z; rw [nst] at e; cases e
    refine ⟨8, rfl, by decide, by decide, for_range (lo := 0) (n := 8) (fun i σ H' => Aft st H1 H' ∧ ∃ y3 y4, σ = [some (.ref a), some (.int ((0 : Nat) + (j : Nat) : Int)), some (.ref st), y3, y4]) ⟨Aft.of S1, _, _, rfl⟩ (fun t σ H' ht p => ?_) (fun σ H' p => ?_)⟩
    case refine_2 =>
      obtain ⟨A, y3, y4, rfl⟩ := p
      exact ⟨ex_l (Ex.trans (show Ex (Hd st H1) (Hd st H') from A.gr) hd_le) s1, _, _, _, _, rfl⟩
    obtain ⟨A1, y3, y4, rfl⟩ := p
    refine ⟨_, rfl, st, rfl, A1.sm, fun Tl H2 a0 a1 a2 a3 a4 v5 ws us x es ds d A2 fT t1 t2 t3 t4 t5 i0 i2 i4 i5 iT TH => ⟨Tl, rfl, ⟨_, SqL.of fT⟩, fun D hD => ?_⟩⟩
    obtain ⟨h0, h1, h2, h3, h4, n02, n04, n24, s0, s2, s4, e0, e2, e4, l0, l2, it0, it2, it4, o5, s5⟩ := TH
    have fD : upd H2 D (HO.lst []) D = some (.lst []) := upd_same
    have xD := Ex.new (o := HO.lst []) hD
    refine lc_listU (xs := [.ref a0, .ref a1, .ref a2, .ref a3, .ref a4, v5]) ⟨SqL.of (xD _ _ fT), ?_⟩
    generalize upd H2 D (HO.lst []) = G0 at fD xD ⊢
    -- all that no turn changes
    have Ua0 : Hd a4 (Hd a2 (Hd a0 H2)) a0 = none := by simp [Hd, n02, n04]
    have Ua2 : Hd a4 (Hd a2 (Hd a0 H2)) a2 = none := by simp [Hd, n24]
    have Ua4 : Hd a4 (Hd a2 (Hd a0 H2)) a4 = none := by simp [Hd]
    have inU : ∀ {b : Addr} {o : HO}, b ≠ a0 → b ≠ a2 → b ≠ a4 → H2 b = some o → Hd a4 (Hd a2 (Hd a0 H2)) b = some o := fun q0 q2 q4 e => hd_of q4 (hd_of q2 (hd_of q0 e))
    have uT := inU t2 t3 t4 fT
    have nt : ∀ {p q : Addr} {xs ys : List V}, H2 p = some (.tup xs) → H2 q = some (.lst ys) → p ≠ q := fun e f z => by rw [z, f] at e; cases e
    have u1 := inU (nt h1 h0) (nt h1 h2) (nt h1 h4) h1
    have u3 := inU (nt h3 h0) (nt h3 h2) (nt h3 h4) h3
    have zU : Ex (Hd a4 (Hd a2 (Hd a0 H2))) H2 := (hd_le.trans hd_le).trans hd_le
    have z0 : Ex (Hd a4 (Hd a2 (Hd a0 H2))) G0 := zU.trans xD
    have Dn : ∀ {b : Addr} {o : HO}, H2 b = some o → D ≠ b := fun e z => by rw [z, e] at hD; cases hD
    have b0 := xD _ _ h0
    have b2 := xD _ _ h2
    have b4 := xD _ _ h4
    clear xD hD
    -- steps
    refine ⟨rfl, _, rfl, .inl ⟨a0, ws, es, rfl, b0, e0.mono (ex_hd z0 Ua0), by omega, it0, fun G1 x1 => ⟨true, rfl, iteF ?_⟩⟩⟩
    have z1 := (ex_hd z0 Ua0).trans x1
    have b2 := x1 _ _ (hd_of (Ne.symm n02) b2)
    have b4 := x1 _ _ (hd_of (Ne.symm n04) b4)
    have fD := x1 _ _ (hd_of (Dn h0) fD)
    refine ⟨SqL.of (z1 _ _ uT), ?_⟩
    refine ⟨rfl, _, rfl, .inr (.inl ⟨a1, ws, es, rfl, z1 _ _ u1, e0.mono z1, by omega, it0, fun G2 x2 => ⟨true, rfl, iteF ?_⟩⟩)⟩
    have z2 := z1.trans x2
    have b2 := x2 _ _ b2
    have b4 := x2 _ _ b4
    have fD := x2 _ _ fD
    refine ⟨SqL.of (z2 _ _ uT), ?_⟩
    refine ⟨rfl, _, rfl, .inl ⟨a2, us, ds, rfl, b2, e2.mono (ex_hd z2 Ua2), by omega, it2, fun G3 x3 => ⟨true, rfl, iteF ?_⟩⟩⟩
    have z3 := (ex_hd z2 Ua2).trans x3
    have b4 := x3 _ _ (hd_of (Ne.symm n24) b4)
    have fD := x3 _ _ (hd_of (Dn h2) fD)
    refine ⟨SqL.of (z3 _ _ uT), ?_⟩
    refine ⟨rfl, _, rfl, .inr (.inl ⟨a3, us, ds, rfl, z3 _ _ u3, e2.mono z3, by omega, it2, fun G4 x4 => ⟨true, rfl, iteF ?_⟩⟩)⟩
    have z4 := z3.trans x4
    have b4 := x4 _ _ b4
    have fD := x4 _ _ fD
    refine ⟨SqL.of (z4 _ _ uT), ?_⟩
    refine ⟨rfl, _, rfl, .inl ⟨a4, us ++ [x], ds ++ [d], rfl, b4, dq_app (e2.mono (ex_hd z4 Ua4)) (.cons (e4.mono (ex_hd z4 Ua4)) .nil), by simp; omega, fun d' m => (List.mem_append.mp m).elim (it2 d') (fun m => by cases List.mem_singleton.mp m; exact it4), fun G5 x5 => ⟨true, rfl, iteF ?_⟩⟩⟩
    have z5 := (ex_hd z4 Ua4).trans x5
    have fD := x5 _ _ (hd_of (Dn h4) fD)
    refine ⟨SqL.of (z5 _ _ uT), ?_⟩
    -- the end, whatever the last thing is
    have fin : ∀ G6, G6 D = some (.lst []) → G6 Tl = some (.lst [.ref a0, .ref a1, .ref a2, .ref a3, .ref a4, v5]) → (∀ b o, (∀ l, v5 = .ref l → b ≠ l) → Hd a4 (Hd a2 (Hd a0 H2)) b = some o → G6 b = some o) → Aft st H1 G6 := fun G6 _ _ k => by
      obtain ⟨dd, sd, es', r⟩ := A2.sm
      have ne : ∀ {b c : Addr} {o : HO}, H' b = some o → H' c = none → b ≠ c := fun e n z => by rw [z, n] at e; cases e
      refine A1.trans ⟨fun b o eb => ?_, dd, sd, k _ _ (fun l e z => s5 (by rw [e, z])) (inU (Ne.symm s0) (Ne.symm s2) (Ne.symm s4) es'), r⟩
      obtain ⟨bs, e⟩ := hd_some eb
      exact hd_of bs (k _ _ (fun l el => ne e (i5 l el)) (inU (ne e i0) (ne e i2) (ne e i4) (A2.at bs e)))
    rcases o5 with ⟨l, rfl, hl⟩ | ⟨l, rfl, hl⟩ | ⟨ty, dd, k1, k2, k3, k4⟩
    · refine ⟨rfl, _, rfl, .inl ⟨l, [], [], rfl, z5 _ _ hl, .nil, Nat.zero_le _, (fun _ m => nomatch m), fun G6 x6 => ⟨true, rfl, iteF ?_⟩⟩⟩
      have gD := x6 _ _ (hd_of (Dn (zU _ _ hl)) fD)
      have gT := x6 _ _ (hd_of (fun z => t5 (by rw [z])) (z5 _ _ uT))
      have gA := fin G6 gD gT fun b o nb e => x6 _ _ (hd_of (nb l rfl) (z5 _ _ e))
      refine ⟨SqL.of gT, nle' (by show 0 ≤ 1000; decide), fun l9 n9 => ⟨D, l9, [], rfl, rfl, (Ex.new n9) _ _ gD, upd_same, false, rfl, iteF ⟨gA.trans (aft_x gA.sm (Ex.new n9)), _, _, rfl⟩⟩⟩
    · refine ⟨rfl, _, rfl, .inr (.inl ⟨l, [], [], rfl, z5 _ _ hl, .nil, Nat.zero_le _, (fun _ m => nomatch m), fun G6 x6 => ⟨true, rfl, iteF ?_⟩⟩)⟩
      have gD := x6 _ _ fD
      have gT := x6 _ _ (z5 _ _ uT)
      have gA := fin G6 gD gT fun b o nb e => x6 _ _ (z5 _ _ e)
      refine ⟨SqL.of gT, nle' (by show 0 ≤ 1000; decide), fun l9 n9 => ⟨D, l9, [], rfl, rfl, (Ex.new n9) _ _ gD, upd_same, false, rfl, iteF ⟨gA.trans (aft_x gA.sm (Ex.new n9)), _, _, rfl⟩⟩⟩
    · refine ⟨rfl, _, rfl, .inr (.inr ⟨v5, ty, dd, rfl, fun _ x => k1 _ (z5.trans x), k2, fun _ x => k3 _ (z5.trans x), k4, fun G6 x6 => ⟨true, rfl, iteF ?_⟩⟩)⟩
      have gD := x6 _ _ fD
      have gT := x6 _ _ (z5 _ _ uT)
      have gA := fin G6 gD gT fun b o nb e => x6 _ _ (z5 _ _ e)
      refine ⟨SqL.of gT, nle' (by show 0 ≤ 1000; decide), fun l9 n9 => ⟨D, l9, [], rfl, rfl, (Ex.new n9) _ _ gD, upd_same, false, rfl, iteF ⟨gA.trans (aft_x gA.sm (Ex.new n9)), _, _, rfl⟩⟩⟩
  · obtain ⟨p0, y1, y2, y3, y4, rfl⟩ := p
    refine ⟨nle' (by show 0 ≤ 1000; decide), fun l nl => .inl ⟨l, [], [], rfl, upd_same, .nil, Nat.zero_le _, (fun _ m => nomatch m), fun G1 x1 => ⟨true, rfl, iteT ?_⟩⟩⟩
    refine ⟨nle' (by show 0 ≤ 1000; decide), fun l2 nl2 => .inr (.inl ⟨l2, [], [], rfl, upd_same, .nil, Nat.zero_le _, (fun _ m => nomatch m), fun G2 x2 => ⟨true, rfl, iteT ?_⟩⟩)⟩
    refine .inr (.inr ⟨.str "ab", .type "str", .str "ab", rfl, fun _ _ => (Dq.str _).ty, kitN (by decide +kernel) (by decide +kernel), fun _ _ => Rpr.of (.str _), ⟨rfl, nle' (by decide +kernel), by decide +kernel⟩, fun G3 x3 => ⟨true, rfl, iteT ?_⟩⟩)
    exact ⟨rfl, fun G4 _ => q G4⟩
end
end Sk

namespace Sk
open PySem PySem.Spec PyProof.Rows L2 Evl PySem.SkE
theorem all_mk {P : Program} {w : World} {K : PySem.W.Frag} {h : Heap} {mg : Str → Option Value} {fa f0 f1 f2 f3 f4 f5 f6 f7 f8 f9 f10 f11 f12 f13 f14 f15 f16 f17 f18 f19 f20 f21 f22 f23 S c0 i0 : Addr} (X : K.In h) (G : h.Ns mainGlobals mg) (hfa : mg "law" = some (.ref fa))
    {od0 an0 od1 an1 od2 an2 od3 an3 od4 an4 od5 an5 od6 an6 od7 an7 od8 an8 od9 an9 od10 an10 od11 an11 od12 an12 od13 an13 od14 an14 od15 an15 od16 an16 od17 an17 od18 an18 od19 an19 od20 an20 od21 an21 od22 an22 od23 an23 : Option Addr} {sl0 sl1 sl2 sl3 sl4 sl5 sl6 sl7 sl8 sl9 sl10 sl11 sl12 sl13 sl14 sl15 sl16 sl17 sl18 sl19 sl20 sl21 sl22 sl23 : Array (Option Value)} {oc0 kV0 dc0 pm0 cd0 ct0 oc1 kV1 dc1 pm1 cd1 ct1 oc2 kV2 dc2 pm2 cd2 ct2 oc3 kV3 dc3 pm3 cd3 ct3 oc4 kV4 dc4 pm4 cd4 ct4 oc5 kV5 dc5 pm5 cd5 ct5 oc6 kV6 dc6 pm6 cd6 ct6 oc7 kV7 dc7 pm7 cd7 ct7 oc8 kV8 dc8 pm8 cd8 ct8 oc9 kV9 dc9 pm9 cd9 ct9 oc10 kV10 dc10 pm10 cd10 ct10 oc11 kV11 dc11 pm11 cd11 ct11 oc12 kV12 dc12 pm12 cd12 ct12 oc13 kV13 dc13 pm13 cd13 ct13 oc14 kV14 dc14 pm14 cd14 ct14 oc15 kV15 dc15 pm15 cd15 ct15 oc16 kV16 dc16 pm16 cd16 ct16 oc17 kV17 dc17 pm17 cd17 ct17 oc18 kV18 dc18 pm18 cd18 ct18 oc19 kV19 dc19 pm19 cd19 ct19 oc20 kV20 dc20 pm20 cd20 ct20 oc21 kV21 dc21 pm21 cd21 ct21 oc22 kV22 dc22 pm22 cd22 ct22 oc23 kV23 dc23 pm23 cd23 ct23 : Value}
    (a0 : PySem.W.nsIn K mainGlobals "is_sign" = some (some (.ref f0))) (l0 : K.lookup f0 = some ⟨oc0, od0, .func (PySem.W.fnOf "is_sign" "is_sign" (defArgs sSign) (defBody sSign) (defScope sSign) .none kV0 dc0 pm0 an0 cd0 ct0), sl0⟩) (c0_ : PySem.W.codeIn K cd0 "is_sign" = true) (k0 : PySem.W.keepIn K (.ref f0) = true)
    (a1 : PySem.W.nsIn K mainGlobals "is_step" = some (some (.ref f1))) (l1 : K.lookup f1 = some ⟨oc1, od1, .func (PySem.W.fnOf "is_step" "is_step" (defArgs sStep) (defBody sStep) (defScope sStep) .none kV1 dc1 pm1 an1 cd1 ct1), sl1⟩) (c1_ : PySem.W.codeIn K cd1 "is_step" = true) (k1 : PySem.W.keepIn K (.ref f1) = true)
    (a2 : PySem.W.nsIn K mainGlobals "are_steps" = some (some (.ref f2))) (l2 : K.lookup f2 = some ⟨oc2, od2, .func (PySem.W.fnOf "are_steps" "are_steps" (defArgs sAre) (defBody sAre) (defScope sAre) .none kV2 dc2 pm2 an2 cd2 ct2), sl2⟩) (c2_ : PySem.W.codeIn K cd2 "are_steps" = true) (k2 : PySem.W.keepIn K (.ref f2) = true)
    (a3 : PySem.W.nsIn K mainGlobals "common_start" = some (some (.ref f3))) (l3 : K.lookup f3 = some ⟨oc3, od3, .func (PySem.W.fnOf "common_start" "common_start" (defArgs sCommon) (defBody sCommon) (defScope sCommon) .none kV3 dc3 pm3 an3 cd3 ct3), sl3⟩) (c3_ : PySem.W.codeIn K cd3 "common_start" = true) (k3 : PySem.W.keepIn K (.ref f3) = true)
    (a4 : PySem.W.nsIn K mainGlobals "renumbered" = some (some (.ref f4))) (l4 : K.lookup f4 = some ⟨oc4, od4, .func (PySem.W.fnOf "renumbered" "renumbered" (defArgs sRenum) (defBody sRenum) (defScope sRenum) .none kV4 dc4 pm4 an4 cd4 ct4), sl4⟩) (c4_ : PySem.W.codeIn K cd4 "renumbered" = true) (k4 : PySem.W.keepIn K (.ref f4) = true)
    (a5 : PySem.W.nsIn K mainGlobals "ascending_order" = some (some (.ref f5))) (l5 : K.lookup f5 = some ⟨oc5, od5, .func (PySem.W.fnOf "ascending_order" "ascending_order" (defArgs sAscend) (defBody sAscend) (defScope sAscend) .none kV5 dc5 pm5 an5 cd5 ct5), sl5⟩) (c5_ : PySem.W.codeIn K cd5 "ascending_order" = true) (k5 : PySem.W.keepIn K (.ref f5) = true)
    (a6 : PySem.W.nsIn K mainGlobals "counts_of" = some (some (.ref f6))) (l6 : K.lookup f6 = some ⟨oc6, od6, .func (PySem.W.fnOf "counts_of" "counts_of" (defArgs sCounts) (defBody sCounts) (defScope sCounts) .none kV6 dc6 pm6 an6 cd6 ct6), sl6⟩) (c6_ : PySem.W.codeIn K cd6 "counts_of" = true) (k6 : PySem.W.keepIn K (.ref f6) = true)
    (a7 : PySem.W.nsIn K mainGlobals "moves_of_states" = some (some (.ref f7))) (l7 : K.lookup f7 = some ⟨oc7, od7, .func (PySem.W.fnOf "moves_of_states" "moves_of_states" (defArgs sMoves) (defBody sMoves) (defScope sMoves) .none kV7 dc7 pm7 an7 cd7 ct7), sl7⟩) (c7_ : PySem.W.codeIn K cd7 "moves_of_states" = true) (k7 : PySem.W.keepIn K (.ref f7) = true)
    (a8 : PySem.W.nsIn K mainGlobals "states_of_texts" = some (some (.ref f8))) (l8 : K.lookup f8 = some ⟨oc8, od8, .func (PySem.W.fnOf "states_of_texts" "states_of_texts" (defArgs sTexts) (defBody sTexts) (defScope sTexts) .none kV8 dc8 pm8 an8 cd8 ct8), sl8⟩) (c8_ : PySem.W.codeIn K cd8 "states_of_texts" = true) (k8 : PySem.W.keepIn K (.ref f8) = true)
    (a9 : PySem.W.nsIn K mainGlobals "_law_stream" = some (some (.ref f9))) (l9 : K.lookup f9 = some ⟨oc9, od9, .func (PySem.W.fnOf "_law_stream" "_law_stream" (defArgs sStream) (defBody sStream) (defScope sStream) .none kV9 dc9 pm9 an9 cd9 ct9), sl9⟩) (c9_ : PySem.W.codeIn K cd9 "_law_stream" = true) (k9 : PySem.W.keepIn K (.ref f9) = true)
    (a10 : PySem.W.nsIn K mainGlobals "_law_draw" = some (some (.ref f10))) (l10 : K.lookup f10 = some ⟨oc10, od10, .func (PySem.W.fnOf "_law_draw" "_law_draw" (defArgs sDraw) (defBody sDraw) (defScope sDraw) .none kV10 dc10 pm10 an10 cd10 ct10), sl10⟩) (c10_ : PySem.W.codeIn K cd10 "_law_draw" = true) (k10 : PySem.W.keepIn K (.ref f10) = true)
    (a11 : PySem.W.nsIn K mainGlobals "_law_choose" = some (some (.ref f11))) (l11 : K.lookup f11 = some ⟨oc11, od11, .func (PySem.W.fnOf "_law_choose" "_law_choose" (defArgs sChoose) (defBody sChoose) (defScope sChoose) .none kV11 dc11 pm11 an11 cd11 ct11), sl11⟩) (c11_ : PySem.W.codeIn K cd11 "_law_choose" = true) (k11 : PySem.W.keepIn K (.ref f11) = true)
    (a12 : PySem.W.nsIn K mainGlobals "_law_word" = some (some (.ref f12))) (l12 : K.lookup f12 = some ⟨oc12, od12, .func (PySem.W.fnOf "_law_word" "_law_word" (defArgs sWord) (defBody sWord) (defScope sWord) .none kV12 dc12 pm12 an12 cd12 ct12), sl12⟩) (c12_ : PySem.W.codeIn K cd12 "_law_word" = true) (k12 : PySem.W.keepIn K (.ref f12) = true)
    (a13 : PySem.W.nsIn K mainGlobals "_law_signs" = some (some (.ref f13))) (l13 : K.lookup f13 = some ⟨oc13, od13, .func (PySem.W.fnOf "_law_signs" "_law_signs" (defArgs sSigns) (defBody sSigns) (defScope sSigns) .none kV13 dc13 pm13 an13 cd13 ct13), sl13⟩) (c13_ : PySem.W.codeIn K cd13 "_law_signs" = true) (k13 : PySem.W.keepIn K (.ref f13) = true)
    (a14 : PySem.W.nsIn K mainGlobals "_law_steps" = some (some (.ref f14))) (l14 : K.lookup f14 = some ⟨oc14, od14, .func (PySem.W.fnOf "_law_steps" "_law_steps" (defArgs sSteps) (defBody sSteps) (defScope sSteps) .none kV14 dc14 pm14 an14 cd14 ct14), sl14⟩) (c14_ : PySem.W.codeIn K cd14 "_law_steps" = true) (k14 : PySem.W.keepIn K (.ref f14) = true)
    (a15 : PySem.W.nsIn K mainGlobals "_law_given" = some (some (.ref f15))) (l15 : K.lookup f15 = some ⟨oc15, od15, .func (PySem.W.fnOf "_law_given" "_law_given" (defArgs sGiven) (defBody sGiven) (defScope sGiven) .none kV15 dc15 pm15 an15 cd15 ct15), sl15⟩) (c15_ : PySem.W.codeIn K cd15 "_law_given" = true) (k15 : PySem.W.keepIn K (.ref f15) = true)
    (a16 : PySem.W.nsIn K mainGlobals "_law_made" = some (some (.ref f16))) (l16 : K.lookup f16 = some ⟨oc16, od16, .func (PySem.W.fnOf "_law_made" "_law_made" (defArgs sMade) (defBody sMade) (defScope sMade) .none kV16 dc16 pm16 an16 cd16 ct16), sl16⟩) (c16_ : PySem.W.codeIn K cd16 "_law_made" = true) (k16 : PySem.W.keepIn K (.ref f16) = true)
    (a17 : PySem.W.nsIn K mainGlobals "_law_is_step" = some (some (.ref f17))) (l17 : K.lookup f17 = some ⟨oc17, od17, .func (PySem.W.fnOf "_law_is_step" "_law_is_step" (defArgs sIsStep) (defBody sIsStep) (defScope sIsStep) .none kV17 dc17 pm17 an17 cd17 ct17), sl17⟩) (c17_ : PySem.W.codeIn K cd17 "_law_is_step" = true) (k17 : PySem.W.keepIn K (.ref f17) = true)
    (a18 : PySem.W.nsIn K mainGlobals "_law_odd" = some (some (.ref f18))) (l18 : K.lookup f18 = some ⟨oc18, od18, .func (PySem.W.fnOf "_law_odd" "_law_odd" (defArgs sOdd) (defBody sOdd) (defScope sOdd) .none kV18 dc18 pm18 an18 cd18 ct18), sl18⟩) (c18_ : PySem.W.codeIn K cd18 "_law_odd" = true) (k18 : PySem.W.keepIn K (.ref f18) = true)
    (a19 : PySem.W.nsIn K mainGlobals "_law_things" = some (some (.ref f19))) (l19 : K.lookup f19 = some ⟨oc19, od19, .func (PySem.W.fnOf "_law_things" "_law_things" (defArgs sThings) (defBody sThings) (defScope sThings) .none kV19 dc19 pm19 an19 cd19 ct19), sl19⟩) (c19_ : PySem.W.codeIn K cd19 "_law_things" = true) (k19 : PySem.W.keepIn K (.ref f19) = true)
    (a20 : PySem.W.nsIn K mainGlobals "_law_told" = some (some (.ref f20))) (l20 : K.lookup f20 = some ⟨oc20, od20, .func (PySem.W.fnOf "_law_told" "_law_told" (defArgs sTold) (defBody sTold) (defScope sTold) .none kV20 dc20 pm20 an20 cd20 ct20), sl20⟩) (c20_ : PySem.W.codeIn K cd20 "_law_told" = true) (k20 : PySem.W.keepIn K (.ref f20) = true)
    (a21 : PySem.W.nsIn K mainGlobals "_law_right" = some (some (.ref f21))) (l21 : K.lookup f21 = some ⟨oc21, od21, .func (PySem.W.fnOf "_law_right" "_law_right" (defArgs sRight) (defBody sRight) (defScope sRight) .none kV21 dc21 pm21 an21 cd21 ct21), sl21⟩) (c21_ : PySem.W.codeIn K cd21 "_law_right" = true) (k21 : PySem.W.keepIn K (.ref f21) = true)
    (a22 : PySem.W.nsIn K mainGlobals "_law_objects_refused" = some (some (.ref f22))) (l22 : K.lookup f22 = some ⟨oc22, od22, .func (PySem.W.fnOf "_law_objects_refused" "_law_objects_refused" (defArgs sRefused) (defBody sRefused) (defScope sRefused) .none kV22 dc22 pm22 an22 cd22 ct22), sl22⟩) (c22_ : PySem.W.codeIn K cd22 "_law_objects_refused" = true) (k22 : PySem.W.keepIn K (.ref f22) = true)
    (a23 : PySem.W.nsIn K mainGlobals "law" = some (some (.ref f23))) (l23 : K.lookup f23 = some ⟨oc23, od23, .func (PySem.W.fnOf "law" "law" (defArgs sLaw) (defBody sLaw) (defScope sLaw) .none kV23 dc23 pm23 an23 cd23 ct23), sl23⟩) (c23_ : PySem.W.codeIn K cd23 "law" = true) (k23 : PySem.W.keepIn K (.ref f23) = true)
    (aS : PySem.W.nsIn K mainGlobals "SchemaError" = some (some (.ref S)))
    {nm0 q0 : Str} {N0 : Addr} {bs0 sb0 : List Value} {sn0 : List Str} {ab0 : Bool} {cl0 : Option Bool} {dd0 eo0 en0 : Option Addr} {u0 v0 w0 x0 y0 : Option Value} {ec0 ed0 ep0 ev0 et0 : Value} {es0 : Array (Option Value)} {p0 r0 s0 t0 g0 j0 : Pos}
    (A0 : PySem.W.nsIn K mainGlobals "BadScript" = some (some (.ref c0))) (B0 : K.lookup c0 = some (excClassObj nm0 q0 c0 N0 bs0 [.ref S, .type "ValueError", .type "Exception", .type "BaseException", .type "object"] true sn0 sb0 ab0 cl0 dd0 u0 v0 w0 x0 y0 "ValueError.__new__")) (C0 : PySem.W.findIn K (.ref c0) "__setattr__" = some (some (.builtin "object.__setattr__"))) (D0 : PySem.W.findIn K (.ref c0) "__getattribute__" = some (some (.builtin "BaseException.__getattribute__"))) (E0 : PySem.W.findIn K (.ref c0) "__getattr__" = some none) (F0 : PySem.W.findIn K (.ref c0) "steps" = some none) (G0 : PySem.W.findIn K (.ref c0) "__init__" = some (some (.ref i0))) (H0 : PySem.W.typeIn K (.ref i0) = some (.type "function")) (I0 : PySem.W.keepIn K (.ref c0) = true) (J0 : PySem.W.subIn K (.ref c0) (.type "BaseException") = some true) (K0 : PySem.W.typeIn K (.ref c0) = some (.type "type")) (L0 : PySem.W.hasDictIn K c0 = true) (M0 : K.lookup i0 = some ⟨ec0, eo0, .func (PySem.W.fnOf "__init__" "BadScript.__init__" (SkE.iA "steps" p0 r0) (SkE.iB "steps" s0 t0 g0 j0) (SkE.iS "steps") .none .none ed0 ep0 en0 ev0 et0), es0⟩) (O0 : PySem.W.codeIn K ev0 "BadScript.__init__" = true) (P0 : (PySem.W.clsIn K c0).isSome = true) (Q0 : PySem.W.findIn K (.ref c0) "__class__" = some (some (.builtin "object.__class__"))) (U0 : PySem.W.mroIn K c0 (.type "object") = some true)
    (X0 : PySem.W.specialIn K (.builtin "object.__class__") "__get__" = some (some (.builtin "getset_descriptor.__get__"))) (X1 : PySem.W.takesIn K (.builtin "object.__class__") = some true)
    (X2 : ((List.range 1).all fun n => (List.range 1).all fun k => PySem.W.kitOne K (.ref ([c0].getD n 0)) (.ref ([c0].getD k 0)) == some (decide (n = k))) = true) (X3 : ((List.range 1).all fun n => PySem.W.kitOne K (.ref ([c0].getD n 0)) (.ref S) == some true) = true) (X4 : ((List.range 1).all fun n => PySem.W.kitOne K (.ref ([c0].getD n 0)) (.type "ValueError") == some true) = true)
    {SC SL pK pLk gI gK gE gLi gLk gLe : Addr} {tN : Tok} {rK rLk : List Value} {odI anI odK anK odE anE odLi anLi odLk anLk odLe anLe : Option Addr} {slI slK slE slLi slLk slLe : Array (Option Value)} {ocI kVI dcI pmI cdI ctI ocK kVK dcK pmK cdK ctK ocE kVE dcE pmE cdE ctE ocLi kVLi dcLi pmLi cdLi ctLi ocLk kVLk dcLk pmLk cdLk ctLk ocLe kVLe dcLe pmLe cdLe ctLe : Value}
    (ex0 : PySem.W.nsIn K mainGlobals "tuple" = some none)
    (ex1 : PySem.W.nsIn K mainGlobals "set" = some none)
    (ex2 : PySem.W.nsIn K mainGlobals "zip" = some none)
    (ex3 : PySem.W.nsIn K mainGlobals "sum" = some none)
    (X10 : PySem.W.nsIn K mainGlobals "NOWHERE" = some (some (.int (-1) tN)))
    (X11 : PySem.W.specialIn K (.builtin "object.__class__") "__get__" = some (some (.builtin "getset_descriptor.__get__")))
    (X12 : PySem.W.takesIn K (.builtin "object.__class__") = some true)
    (X13 : PySem.W.nsIn K mainGlobals "Script" = some (some (.ref SC)))
    (X14 : PySem.W.plainGet K SC Str.empty = true)
    (X15 : PySem.W.hasDictIn K SC = true)
    (X16 : PySem.W.plainOver K SC = true)
    (X17 : PySem.W.findIn K (.ref SC) "__setattr__" = some (some (.builtin "object.__setattr__")))
    (X18 : PySem.W.findIn K (.ref SC) "steps" = some none)
    (X19 : PySem.W.findIn K (.ref SC) "given" = some none)
    (X20 : PySem.W.findIn K (.ref SC) "made" = some none)
    (X21 : PySem.W.findIn K (.ref SC) "__class__" = some (some (.builtin "object.__class__")))
    (X22 : PySem.W.mroIn K SC (.type "object") = some true)
    (X23 : PySem.W.kitOne K (.ref SC) (.ref SC) = some true)
    (X24 : PySem.W.kitAny K (.ref SC) [.type "list", .type "tuple"] = some false)
    (X25 : PySem.W.makesIn K SC = true)
    (X26 : PySem.W.keepIn K (.ref SC) = true)
    (X27 : PySem.W.readsIn K SC (.type "type") = true)
    (X28 : PySem.W.specialIn K (.ref SC) "__getattribute__" = some (some (.builtin "type.__getattribute__")))
    (X29 : PySem.W.nsIn K mainGlobals "Language" = some (some (.ref SL)))
    (X30 : PySem.W.plainGet K SL Str.empty = true)
    (X31 : PySem.W.hasDictIn K SL = true)
    (X32 : PySem.W.plainOver K SL = true)
    (X33 : PySem.W.findIn K (.ref SL) "__setattr__" = some (some (.builtin "object.__setattr__")))
    (X34 : PySem.W.findIn K (.ref SL) "_states" = some none)
    (X35 : PySem.W.findIn K (.ref SL) "_moves" = some none)
    (X36 : PySem.W.findIn K (.ref SL) "_many" = some none)
    (X37 : PySem.W.findIn K (.ref SL) "count" = some none)
    (X38 : PySem.W.findIn K (.ref SL) "_kept_net" = some none)
    (X39 : PySem.W.findIn K (.ref SL) "__class__" = some (some (.builtin "object.__class__")))
    (X40 : PySem.W.mroIn K SL (.type "object") = some true)
    (X41 : PySem.W.kitOne K (.ref SL) (.ref SL) = some true)
    (X42 : PySem.W.kitAny K (.ref SL) [.type "list", .type "tuple"] = some false)
    (X43 : PySem.W.makesIn K SL = true)
    (X44 : PySem.W.keepIn K (.ref SL) = true)
    (X45 : PySem.W.readsIn K SL (.type "type") = true)
    (X46 : PySem.W.specialIn K (.ref SL) "__getattribute__" = some (some (.builtin "type.__getattribute__")))
    (X47 : PySem.W.findIn K (.ref SC) "__init__" = some (some (.ref gI)))
    (X48 : PySem.W.isFn K (.ref gI) = true)
    (X49 : K.lookup gI = some ⟨ocI, odI, .func (PySem.W.fnOf "__init__" "Script.__init__" (defArgs sInit) (defBody sInit) (defScope sInit) .none kVI dcI pmI anI cdI ctI), slI⟩)
    (X50 : PySem.W.codeIn K cdI "Script.__init__" = true)
    (X51 : PySem.W.keepIn K (.ref gI) = true)
    (X52 : PySem.W.findCls K (.ref SC) (.type "type") "kept" = some (.get (.builtin "classmethod.__get__") (.ref pK) .none (.ref SC)))
    (X53 : PySem.W.recIn K pK "classmethod" = some (.ref gK :: rK))
    (X54 : PySem.W.fnIn K gK = true)
    (X55 : PySem.W.isFn K (.ref gK) = true)
    (X56 : K.lookup gK = some ⟨ocK, odK, .func (PySem.W.fnOf "kept" "Script.kept" (defArgs sKept) (defBody sKept) (defScope sKept) .none kVK dcK pmK anK cdK ctK), slK⟩)
    (X57 : PySem.W.codeIn K cdK "Script.kept" = true)
    (X58 : PySem.W.keepIn K (.ref gK) = true)
    (X59 : PySem.W.findIn K (.ref SC) "__eq__" = some (some (.ref gE)))
    (X60 : PySem.W.isFn K (.ref gE) = true)
    (X61 : K.lookup gE = some ⟨ocE, odE, .func (PySem.W.fnOf "__eq__" "Script.__eq__" (defArgs sEq) (defBody sEq) (defScope sEq) .none kVE dcE pmE anE cdE ctE), slE⟩)
    (X62 : PySem.W.codeIn K cdE "Script.__eq__" = true)
    (X63 : PySem.W.keepIn K (.ref gE) = true)
    (X64 : PySem.W.findIn K (.ref SL) "__init__" = some (some (.ref gLi)))
    (X65 : PySem.W.isFn K (.ref gLi) = true)
    (X66 : K.lookup gLi = some ⟨ocLi, odLi, .func (PySem.W.fnOf "__init__" "Language.__init__" (defArgs sLInit) (defBody sLInit) (defScope sLInit) .none kVLi dcLi pmLi anLi cdLi ctLi), slLi⟩)
    (X67 : PySem.W.codeIn K cdLi "Language.__init__" = true)
    (X68 : PySem.W.keepIn K (.ref gLi) = true)
    (X69 : PySem.W.findCls K (.ref SL) (.type "type") "listed" = some (.get (.builtin "classmethod.__get__") (.ref pLk) .none (.ref SL)))
    (X70 : PySem.W.recIn K pLk "classmethod" = some (.ref gLk :: rLk))
    (X71 : PySem.W.fnIn K gLk = true)
    (X72 : PySem.W.isFn K (.ref gLk) = true)
    (X73 : K.lookup gLk = some ⟨ocLk, odLk, .func (PySem.W.fnOf "listed" "Language.listed" (defArgs sListed) (defBody sListed) (defScope sListed) .none kVLk dcLk pmLk anLk cdLk ctLk), slLk⟩)
    (X74 : PySem.W.codeIn K cdLk "Language.listed" = true)
    (X75 : PySem.W.keepIn K (.ref gLk) = true)
    (X76 : PySem.W.findIn K (.ref SL) "__eq__" = some (some (.ref gLe)))
    (X77 : PySem.W.isFn K (.ref gLe) = true)
    (X78 : K.lookup gLe = some ⟨ocLe, odLe, .func (PySem.W.fnOf "__eq__" "Language.__eq__" (defArgs sLEq) (defBody sLEq) (defScope sLEq) .none kVLe dcLe pmLe anLe cdLe ctLe), slLe⟩)
    (X79 : PySem.W.codeIn K cdLe "Language.__eq__" = true)
    (X80 : PySem.W.keepIn K (.ref gLe) = true)
    (X81 : PySem.W.exmOne K (.ref c0) (.ref c0) = some true)
    (z0 : PySem.W.nsIn K mainGlobals "isinstance" = some none)
    (z1 : PySem.W.nsIn K mainGlobals "bool" = some none)
    (z2 : PySem.W.nsIn K mainGlobals "int" = some none)
    (z3 : PySem.W.nsIn K mainGlobals "str" = some none)
    (z4 : PySem.W.nsIn K mainGlobals "list" = some none)
    (z5 : PySem.W.nsIn K mainGlobals "dict" = some none)
    (z6 : PySem.W.nsIn K mainGlobals "sorted" = some none)
    (z7 : PySem.W.nsIn K mainGlobals "len" = some none)
    (z8 : PySem.W.nsIn K mainGlobals "range" = some none)
    (z9 : PySem.W.nsIn K mainGlobals "min" = some none)
    (z10 : PySem.W.nsIn K mainGlobals "max" = some none)
    (z11 : PySem.W.nsIn K mainGlobals "repr" = some none)
    : ∃ fd : FuncData, (∀ (s : Shared) (u : Value), BindsTo s fd ⟨[u], []⟩ [("script", u)]) ∧ ∀ base : Heap, K.In base → base.Ns mainGlobals mg → LawOk P w K mg base fa fd "script" (spLaw K) := by
  have e := hfa.symm.trans (PySem.W.mg_of X G a23)
  cases e
  have F0_ := fun_mk (st := sSign) l0 c0_ k0
  have F1_ := fun_mk (st := sStep) l1 c1_ k1
  have F2_ := fun_mk (st := sAre) l2 c2_ k2
  have F3_ := fun_mk (st := sCommon) l3 c3_ k3
  have F4_ := fun_mk (st := sRenum) l4 c4_ k4
  have F5_ := fun_mk (st := sAscend) l5 c5_ k5
  have F6_ := fun_mk (st := sCounts) l6 c6_ k6
  have F7_ := fun_mk (st := sMoves) l7 c7_ k7
  have F8_ := fun_mk (st := sTexts) l8 c8_ k8
  have F9_ := fun_mk (st := sStream) l9 c9_ k9
  have F10_ := fun_mk (st := sDraw) l10 c10_ k10
  have F11_ := fun_mk (st := sChoose) l11 c11_ k11
  have F12_ := fun_mk (st := sWord) l12 c12_ k12
  have F13_ := fun_mk (st := sSigns) l13 c13_ k13
  have F14_ := fun_mk (st := sSteps) l14 c14_ k14
  have F15_ := fun_mk (st := sGiven) l15 c15_ k15
  have F16_ := fun_mk (st := sMade) l16 c16_ k16
  have F17_ := fun_mk (st := sIsStep) l17 c17_ k17
  have F18_ := fun_mk (st := sOdd) l18 c18_ k18
  have F19_ := fun_mk (st := sThings) l19 c19_ k19
  have F20_ := fun_mk (st := sTold) l20 c20_ k20
  have F21_ := fun_mk (st := sRight) l21 c21_ k21
  have F22_ := fun_mk (st := sRefused) l22 c22_ k22
  have F23_ := fun_mk (st := sLaw) l23 c23_ k23
  have b0 := F0_.binds (ps := ["thing"]) fun _ _ _ _ _ _ us hl => match us, hl with | [_], _ => rfl
  have m0 := PySem.W.mg_of X G a0
  have b1 := F1_.binds (ps := ["thing"]) fun _ _ _ _ _ _ us hl => match us, hl with | [_], _ => rfl
  have m1 := PySem.W.mg_of X G a1
  have b2 := F2_.binds (ps := ["thing"]) fun _ _ _ _ _ _ us hl => match us, hl with | [_], _ => rfl
  have m2 := PySem.W.mg_of X G a2
  have b3 := F3_.binds (ps := ["first", "second"]) fun _ _ _ _ _ _ us hl => match us, hl with | [_, _], _ => rfl
  have m3 := PySem.W.mg_of X G a3
  have b4 := F4_.binds (ps := ["states", "first"]) fun _ _ _ _ _ _ us hl => match us, hl with | [_, _], _ => rfl
  have m4 := PySem.W.mg_of X G a4
  have b5 := F5_.binds (ps := ["states"]) fun _ _ _ _ _ _ us hl => match us, hl with | [_], _ => rfl
  have m5 := PySem.W.mg_of X G a5
  have b6 := F6_.binds (ps := ["states"]) fun _ _ _ _ _ _ us hl => match us, hl with | [_], _ => rfl
  have m6 := PySem.W.mg_of X G a6
  have b7 := F7_.binds (ps := ["states"]) fun _ _ _ _ _ _ us hl => match us, hl with | [_], _ => rfl
  have m7 := PySem.W.mg_of X G a7
  have b8 := F8_.binds (ps := ["texts"]) fun _ _ _ _ _ _ us hl => match us, hl with | [_], _ => rfl
  have m8 := PySem.W.mg_of X G a8
  have b9 := F9_.binds (ps := ["script", "start_v"]) fun _ _ _ _ _ _ us hl => match us, hl with | [_, _], _ => rfl
  have m9 := PySem.W.mg_of X G a9
  have b10 := F10_.binds (ps := ["stream", "size"]) fun _ _ _ _ _ _ us hl => match us, hl with | [_, _], _ => rfl
  have m10 := PySem.W.mg_of X G a10
  have b11 := F11_.binds (ps := ["stream", "items"]) fun _ _ _ _ _ _ us hl => match us, hl with | [_, _], _ => rfl
  have m11 := PySem.W.mg_of X G a11
  have b12 := F12_.binds (ps := ["stream", "high", "signs"]) fun _ _ _ _ _ _ us hl => match us, hl with | [_, _, _], _ => rfl
  have m12 := PySem.W.mg_of X G a12
  have b13 := F13_.binds (ps := ["stream"]) fun _ _ _ _ _ _ us hl => match us, hl with | [_], _ => rfl
  have m13 := PySem.W.mg_of X G a13
  have b14 := F14_.binds (ps := ["stream", "own", "signs"]) fun _ _ _ _ _ _ us hl => match us, hl with | [_, _, _], _ => rfl
  have m14 := PySem.W.mg_of X G a14
  have b15 := F15_.binds (ps := ["steps"]) fun _ _ _ _ _ _ us hl => match us, hl with | [_], _ => rfl
  have m15 := PySem.W.mg_of X G a15
  have b16 := F16_.binds (ps := ["steps"]) fun _ _ _ _ _ _ us hl => match us, hl with | [_], _ => rfl
  have m16 := PySem.W.mg_of X G a16
  have b17 := F17_.binds (ps := ["thing"]) fun _ _ _ _ _ _ us hl => match us, hl with | [_], _ => rfl
  have m17 := PySem.W.mg_of X G a17
  have b18 := F18_.binds (ps := ["stream"]) fun _ _ _ _ _ _ us hl => match us, hl with | [_], _ => rfl
  have m18 := PySem.W.mg_of X G a18
  have b19 := F19_.binds (ps := ["stream"]) fun _ _ _ _ _ _ us hl => match us, hl with | [_], _ => rfl
  have m19 := PySem.W.mg_of X G a19
  have b20 := F20_.binds (ps := ["thing"]) fun _ _ _ _ _ _ us hl => match us, hl with | [_], _ => rfl
  have m20 := PySem.W.mg_of X G a20
  have b21 := F21_.binds (ps := ["thing"]) fun _ _ _ _ _ _ us hl => match us, hl with | [_], _ => rfl
  have m21 := PySem.W.mg_of X G a21
  have b22 := F22_.binds (ps := []) fun _ _ _ _ _ _ us hl => match us, hl with | [], _ => rfl
  have m22 := PySem.W.mg_of X G a22
  have B : Blt mg := ⟨PySem.W.mg_none_of X G z0, PySem.W.mg_none_of X G z1, PySem.W.mg_none_of X G z2, PySem.W.mg_none_of X G z3, PySem.W.mg_none_of X G z4, PySem.W.mg_none_of X G z5, PySem.W.mg_none_of X G z6, PySem.W.mg_none_of X G z7, PySem.W.mg_none_of X G z8, PySem.W.mg_none_of X G z9, PySem.W.mg_none_of X G z10, PySem.W.mg_none_of X G z11⟩
  have T0 : SkE.ErrTxt K mg "BadScript" "steps" "BadScript.__init__" c0 i0 := { gC := PySem.W.mg_of X G A0, cls := ⟨_, _, _, _, _, _, _, _, _, _, _, _, _, _, _, B0, rfl⟩, sa := C0, ga := D0, gg := E0, noN := F0, iC := G0, tC := H0, kC := I0, exC := J0, tyC := K0, hdC := L0, fn := ⟨_, _, _, _, _, _, _, _, _, _, _, _, _, _, M0, O0⟩, cl_ := P0, hCl := Q0, hGt := X0, hTk := X1, hOb := U0 }
  have mS := PySem.W.mg_of X G aS
  let C : Nat → Addr := fun n => [c0].getD n 0
  let I : Nat → Addr := fun n => [i0].getD n 0
  refine ⟨PySem.W.fnOf "law" "law" (defArgs sLaw) (defBody sLaw) (defScope sLaw) .none kV23 dc23 pm23 an23 cd23 ct23, fun s v => .of_eq rfl, fun base _ _ => ?_⟩
  have B2 : Blt2 mg := ⟨PySem.W.mg_none_of X G ex0, PySem.W.mg_none_of X G ex1, PySem.W.mg_none_of X G ex2⟩
  have ms : mg "sum" = none := PySem.W.mg_none_of X G ex3
  have gDr : FnOk P w K mg base CX0 1 f10 _ ["stream", "size"] spDraw := ok_draw (k := 0) F10_ B
  have W : Drw P w K mg base f10 f11 _ _ := ⟨gDr, b10, k10, m10, ok_choose (k := 1) F11_ gDr b10 k10 m10 B.len, b11, k11, m11⟩
  have Sgn : Lt P w K mg base f0 _ "is_sign" ["thing"] 1 spSign := ⟨ok_sign (k := 0) F0_ B, b0, k0, m0⟩
  have Stp : Lt P w K mg base f1 _ "is_step" ["thing"] 2 spStep := ⟨ok_step F1_ B B2 Sgn, b1, k1, m1⟩
  have Are : Lt P w K mg base f2 _ "are_steps" ["thing"] 3 spAre := ⟨ok_are F2_ B B2 Stp, b2, k2, m2⟩
  have AreT : Lt P w K mg base f2 _ "are_steps" ["thing"] 3 spAreT := ⟨ok_areT F2_ B B2 Stp, b2, k2, m2⟩
  have SgB : Lt P w K mg base f0 _ "is_sign" ["thing"] 1 spSignB := ⟨ok_signB (k := 0) F0_ B, b0, k0, m0⟩
  have StB : Lt P w K mg base f1 _ "is_step" ["thing"] 2 (spStepC K) := ⟨fn_or (ok_stepB F1_ B B2 SgB) (ok_stepX (k := 1) F1_ B B2), b1, k1, m1⟩
  have AreB : Lt P w K mg base f2 _ "are_steps" ["thing"] 3 (spAreB K) := ⟨ok_areB F2_ B B2 StB, b2, k2, m2⟩
  have MI := fun_mk (st := sInit) X49 X50 X51
  have bMI := MI.binds (ps := ["self", "steps"]) fun _ _ _ _ _ _ us hl => match us, hl with | [_, _], _ => rfl
  have MK := fun_mk (st := sKept) X56 X57 X58
  have bMK := MK.binds (ps := ["cls", "text"]) fun _ _ _ _ _ _ us hl => match us, hl with | [_, _], _ => rfl
  have ME := fun_mk (st := sEq) X61 X62 X63
  have bME := ME.binds (ps := ["self", "other"]) fun _ _ _ _ _ _ us hl => match us, hl with | [_, _], _ => rfl
  have MLi := fun_mk (st := sLInit) X66 X67 X68
  have bMLi := MLi.binds (ps := ["self", "states"]) fun _ _ _ _ _ _ us hl => match us, hl with | [_, _], _ => rfl
  have MLk := fun_mk (st := sListed) X73 X74 X75
  have bMLk := MLk.binds (ps := ["cls", "texts"]) fun _ _ _ _ _ _ us hl => match us, hl with | [_, _], _ => rfl
  have MLe := fun_mk (st := sLEq) X78 X79 X80
  have bMLe := MLe.binds (ps := ["self", "other"]) fun _ _ _ _ _ _ us hl => match us, hl with | [_, _], _ => rfl
  have TT : ScT K mg SC := ⟨⟨X14, X15, X16, X17⟩, X18, X19, X20, PySem.W.mg_of X G X13⟩
  have MM : ScM K mg SC := ⟨TT, X21, X11, X12, X22, X23⟩
  have MKc : Mk K SC gI := ⟨X25, X47, X48, X26⟩
  have TL : LgT K mg SL := ⟨⟨X30, X31, X32, X33⟩, X34, X35, X36, X37, X38, PySem.W.mg_of X G X29, X39, X11, X12, X40, X41⟩
  have MKl : Mk K SL gLi := ⟨X43, X64, X65, X44⟩
  have Gi : FnOk P w K mg base CX0 4 gI _ ["self", "steps"] (spIni SC) := ok_ini MI B B2 TT Are
  have QI : FnR P w K mg base (L2.CX P w) 5 gI (spIniB K SC c0) := ((ok_iniB MI B B2 TT Are AreT AreB T0 : FnOk P w K mg base (L2.CX P w) 5 gI _ _ (spIniB K SC c0)).raw bMI .nil).imp fun vs H Q E h => by rw [List.append_nil]; exact h
  have QE : FnR P w K mg base CX0 3 gE (spEqT SC) := ((ok_eq ME B MM : FnOk P w K mg base CX0 3 gE _ _ (spEqT SC)).raw bME .nil).imp fun vs H Q E h => by rw [List.append_nil]; exact h
  have QK : FnR P w K mg base CX0 6 gK (spKep SC) := ((ok_kep MK MKc Gi bMI : FnOk P w K mg base CX0 6 gK _ _ (spKep SC)).raw bMK .nil).imp fun vs H Q E h => by rw [List.append_nil]; exact h
  have Com : Lt P w K mg base f3 _ "common_start" ["first", "second"] 1 spCom := ⟨ok_com (k := 0) F3_ B B2, b3, k3, m3⟩
  have Ren : Lt P w K mg base f4 _ "renumbered" ["states", "first"] 1 spRen := ⟨ok_ren (k := 0) F4_ B B2 ⟨_, PySem.W.mg_of X G X10⟩, b4, k4, m4⟩
  have Asc : Lt P w K mg base f5 _ "ascending_order" ["states"] 1 spAsc := ⟨ok_asc (k := 0) F5_ B, b5, k5, m5⟩
  have Cnt : Lt P w K mg base f6 _ "counts_of" ["states"] 2 spCnt := ⟨ok_cnt F6_ B ms Asc, b6, k6, m6⟩
  have Mov : Lt P w K mg base f7 _ "moves_of_states" ["states"] 1 spMov := ⟨ok_mov (k := 0) F7_ B, b7, k7, m7⟩
  have Tex : Lt P w K mg base f8 _ "states_of_texts" ["texts"] 2 spTex := ⟨ok_tex F8_ B B2 Com Ren, b8, k8, m8⟩
  have GLi : FnOk P w K mg base CX0 3 gLi _ ["self", "states"] (spLin SL) := ok_lin MLi B TL Mov Cnt
  have QLk : FnR P w K mg base CX0 5 gLk (spLst SL) := ((ok_lst MLk MKl GLi bMLi Tex : FnOk P w K mg base CX0 5 gLk _ _ (spLst SL)).raw bMLk .nil).imp fun vs H Q E h => by rw [List.append_nil]; exact h
  have QLe : FnR P w K mg base CX0 1 gLe (spLEq SL) := ((ok_leq MLe B TL : FnOk P w K mg base CX0 1 gLe _ _ (spLEq SL)).raw bMLe .nil).imp fun vs H Q E h => by rw [List.append_nil]; exact h
  have Z : Cl2 P w K mg base SC SL := { S := MM, T := TL, kep := ⟨pK, gK, .type "type", ⟨X27, X28⟩, ⟨X52, ⟨_, X53⟩, X54⟩, QK⟩, lis := ⟨pLk, gLk, .type "type", ⟨X45, X46⟩, ⟨X69, ⟨_, X70⟩, X71⟩, QLk⟩, eqS := ⟨gE, X59, X60, QE⟩, eqL := ⟨gLe, X76, X77, QLe⟩, kS := X24, kL := X42 }
  have St : Lt P w K mg base f9 _ "_law_stream" ["script", "start_v"] 1 (spStream K) := ⟨ok_stream (k := 0) F9_ B, b9, k9, m9⟩
  have Sg : Lt P w K mg base f13 _ "_law_signs" ["stream"] 3 spSigns := ⟨ok_signs F13_ W, b13, k13, m13⟩
  have Wo : Lt P w K mg base f12 _ "_law_word" ["stream", "high", "signs"] 3 spWord := ⟨ok_word F12_ W B, b12, k12, m12⟩
  have Ts : Lt P w K mg base f14 _ "_law_steps" ["stream", "own", "signs"] 3 spSte := ⟨ok_ste F14_ W B, b14, k14, m14⟩
  have Gv : Lt P w K mg base f15 _ "_law_given" ["steps"] 1 spGivenT := ⟨ok_givenT (k := 0) F15_, b15, k15, m15⟩
  have Ma : Lt P w K mg base f16 _ "_law_made" ["steps"] 1 spMadeT := ⟨ok_madeT (k := 0) F16_, b16, k16, m16⟩
  have Is : Lt P w K mg base f17 _ "_law_is_step" ["thing"] 1 spIS2 := ⟨ok_isB (k := 0) F17_ B B2, b17, k17, m17⟩
  have Od : Lt P w K mg base f18 _ "_law_odd" ["stream"] 3 spOddB := ⟨ok_oddB F18_ W, b18, k18, m18⟩
  have Th : Lt P w K mg base f19 _ "_law_things" ["stream"] 4 (spThings K) := ⟨ok_things F19_ B B2 W Sg Wo Ts Od, b19, k19, m19⟩
  have To : Lt P w K mg base f20 _ "_law_told" ["thing"] 7 (spTold K SC) := ⟨ok_told F20_ T0 X81 TT.mC MKc QI, b20, k20, m20⟩
  have Rf : Lt P w K mg base f22 _ "_law_objects_refused" [] 8 spRef := ⟨ok_ref F22_ Z To, b22, k22, m22⟩
  exact ok_law F23_ B St Th (ok_right F21_ B B2 TT Is To Gv Ma) b21 k21 m21 Rf
end Sk
open PySem PySem.W PyProof.Rows
set_option maxHeartbeats 0 in
theorem PySem.Challenge.cw_soonknown_k41_scripts_made_and_refused_holds : PySem.Challenge.rw_soonknown_k41_scripts_made_and_refused.Holds := by
  refine Sk.hd ?_
  k_fill
  refine Sk.walk_law (l := PySem.Challenge.rw_soonknown_k41_scripts_made_and_refused) (n := 63) (x := "script") (sp := fun w => Sk.spLaw _) rfl (by decide) rfl (fun w h Y => PySem.W.kIn_of Y) ?F fun w H a ns hl hb hS => ⟨a, ns, rfl, hS, hl, hb, fun _ => rfl⟩
  case F =>
    intro w mg fa h KX G hmg
    refine' Sk.all_mk KX G hmg ?a0 ?l0 ?c0_ ?k0 ?a1 ?l1 ?c1_ ?k1 ?a2 ?l2 ?c2_ ?k2 ?a3 ?l3 ?c3_ ?k3 ?a4 ?l4 ?c4_ ?k4 ?a5 ?l5 ?c5_ ?k5 ?a6 ?l6 ?c6_ ?k6 ?a7 ?l7 ?c7_ ?k7 ?a8 ?l8 ?c8_ ?k8 ?a9 ?l9 ?c9_ ?k9 ?a10 ?l10 ?c10_ ?k10 ?a11 ?l11 ?c11_ ?k11 ?a12 ?l12 ?c12_ ?k12 ?a13 ?l13 ?c13_ ?k13 ?a14 ?l14 ?c14_ ?k14 ?a15 ?l15 ?c15_ ?k15 ?a16 ?l16 ?c16_ ?k16 ?a17 ?l17 ?c17_ ?k17 ?a18 ?l18 ?c18_ ?k18 ?a19 ?l19 ?c19_ ?k19 ?a20 ?l20 ?c20_ ?k20 ?a21 ?l21 ?c21_ ?k21 ?a22 ?l22 ?c22_ ?k22 ?a23 ?l23 ?c23_ ?k23 ?aS ?A0 ?B0 ?C0 ?D0 ?E0 ?F0 ?G0 ?H0 ?I0 ?J0 ?K0 ?L0 ?M0 ?O0 ?P0 ?Q0 ?U0 ?X0 ?X1 ?X2 ?X3 ?X4 ?ex0 ?ex1 ?ex2 ?ex3 ?X10 ?X11 ?X12 ?X13 ?X14 ?X15 ?X16 ?X17 ?X18 ?X19 ?X20 ?X21 ?X22 ?X23 ?X24 ?X25 ?X26 ?X27 ?X28 ?X29 ?X30 ?X31 ?X32 ?X33 ?X34 ?X35 ?X36 ?X37 ?X38 ?X39 ?X40 ?X41 ?X42 ?X43 ?X44 ?X45 ?X46 ?X47 ?X48 ?X49 ?X50 ?X51 ?X52 ?X53 ?X54 ?X55 ?X56 ?X57 ?X58 ?X59 ?X60 ?X61 ?X62 ?X63 ?X64 ?X65 ?X66 ?X67 ?X68 ?X69 ?X70 ?X71 ?X72 ?X73 ?X74 ?X75 ?X76 ?X77 ?X78 ?X79 ?X80 ?X81 ?z0 ?z1 ?z2 ?z3 ?z4 ?z5 ?z6 ?z7 ?z8 ?z9 ?z10 ?z11
    (case a0 => (refine' Sk.s_nsIn ?subp ?subq; (case subp => k_is); (case subq => kernel_rfl)))
    (case l0 => (refine' Sk.s_lookup ?subp ?subq; (case subp => k_is); (case subq => kernel_rfl)))
    (case c0_ => (refine' Sk.s_codeIn ?subp ?subq; (case subp => k_is); (case subq => kernel_rfl)))
    (case k0 => (refine' Sk.s_keepIn ?subp ?subq; (case subp => k_is); (case subq => kernel_rfl)))
    (case a1 => (refine' Sk.s_nsIn ?subp ?subq; (case subp => k_is); (case subq => kernel_rfl)))
    (case l1 => (refine' Sk.s_lookup ?subp ?subq; (case subp => k_is); (case subq => kernel_rfl)))
    (case c1_ => (refine' Sk.s_codeIn ?subp ?subq; (case subp => k_is); (case subq => kernel_rfl)))
    (case k1 => (refine' Sk.s_keepIn ?subp ?subq; (case subp => k_is); (case subq => kernel_rfl)))
    (case a2 => (refine' Sk.s_nsIn ?subp ?subq; (case subp => k_is); (case subq => kernel_rfl)))
    (case l2 => (refine' Sk.s_lookup ?subp ?subq; (case subp => k_is); (case subq => kernel_rfl)))
    (case c2_ => (refine' Sk.s_codeIn ?subp ?subq; (case subp => k_is); (case subq => kernel_rfl)))
    (case k2 => (refine' Sk.s_keepIn ?subp ?subq; (case subp => k_is); (case subq => kernel_rfl)))
    (case a3 => (refine' Sk.s_nsIn ?subp ?subq; (case subp => k_is); (case subq => kernel_rfl)))
    (case l3 => (refine' Sk.s_lookup ?subp ?subq; (case subp => k_is); (case subq => kernel_rfl)))
    (case c3_ => (refine' Sk.s_codeIn ?subp ?subq; (case subp => k_is); (case subq => kernel_rfl)))
    (case k3 => (refine' Sk.s_keepIn ?subp ?subq; (case subp => k_is); (case subq => kernel_rfl)))
    (case a4 => (refine' Sk.s_nsIn ?subp ?subq; (case subp => k_is); (case subq => kernel_rfl)))
    (case l4 => (refine' Sk.s_lookup ?subp ?subq; (case subp => k_is); (case subq => kernel_rfl)))
    (case c4_ => (refine' Sk.s_codeIn ?subp ?subq; (case subp => k_is); (case subq => kernel_rfl)))
    (case k4 => (refine' Sk.s_keepIn ?subp ?subq; (case subp => k_is); (case subq => kernel_rfl)))
    (case a5 => (refine' Sk.s_nsIn ?subp ?subq; (case subp => k_is); (case subq => kernel_rfl)))
    (case l5 => (refine' Sk.s_lookup ?subp ?subq; (case subp => k_is); (case subq => kernel_rfl)))
    (case c5_ => (refine' Sk.s_codeIn ?subp ?subq; (case subp => k_is); (case subq => kernel_rfl)))
    (case k5 => (refine' Sk.s_keepIn ?subp ?subq; (case subp => k_is); (case subq => kernel_rfl)))
    (case a6 => (refine' Sk.s_nsIn ?subp ?subq; (case subp => k_is); (case subq => kernel_rfl)))
    (case l6 => (refine' Sk.s_lookup ?subp ?subq; (case subp => k_is); (case subq => kernel_rfl)))
    (case c6_ => (refine' Sk.s_codeIn ?subp ?subq; (case subp => k_is); (case subq => kernel_rfl)))
    (case k6 => (refine' Sk.s_keepIn ?subp ?subq; (case subp => k_is); (case subq => kernel_rfl)))
    (case a7 => (refine' Sk.s_nsIn ?subp ?subq; (case subp => k_is); (case subq => kernel_rfl)))
    (case l7 => (refine' Sk.s_lookup ?subp ?subq; (case subp => k_is); (case subq => kernel_rfl)))
    (case c7_ => (refine' Sk.s_codeIn ?subp ?subq; (case subp => k_is); (case subq => kernel_rfl)))
    (case k7 => (refine' Sk.s_keepIn ?subp ?subq; (case subp => k_is); (case subq => kernel_rfl)))
    (case a8 => (refine' Sk.s_nsIn ?subp ?subq; (case subp => k_is); (case subq => kernel_rfl)))
    (case l8 => (refine' Sk.s_lookup ?subp ?subq; (case subp => k_is); (case subq => kernel_rfl)))
    (case c8_ => (refine' Sk.s_codeIn ?subp ?subq; (case subp => k_is); (case subq => kernel_rfl)))
    (case k8 => (refine' Sk.s_keepIn ?subp ?subq; (case subp => k_is); (case subq => kernel_rfl)))
    (case a9 => (refine' Sk.s_nsIn ?subp ?subq; (case subp => k_is); (case subq => kernel_rfl)))
    (case l9 => (refine' Sk.s_lookup ?subp ?subq; (case subp => k_is); (case subq => kernel_rfl)))
    (case c9_ => (refine' Sk.s_codeIn ?subp ?subq; (case subp => k_is); (case subq => kernel_rfl)))
    (case k9 => (refine' Sk.s_keepIn ?subp ?subq; (case subp => k_is); (case subq => kernel_rfl)))
    (case a10 => (refine' Sk.s_nsIn ?subp ?subq; (case subp => k_is); (case subq => kernel_rfl)))
    (case l10 => (refine' Sk.s_lookup ?subp ?subq; (case subp => k_is); (case subq => kernel_rfl)))
    (case c10_ => (refine' Sk.s_codeIn ?subp ?subq; (case subp => k_is); (case subq => kernel_rfl)))
    (case k10 => (refine' Sk.s_keepIn ?subp ?subq; (case subp => k_is); (case subq => kernel_rfl)))
    (case a11 => (refine' Sk.s_nsIn ?subp ?subq; (case subp => k_is); (case subq => kernel_rfl)))
    (case l11 => (refine' Sk.s_lookup ?subp ?subq; (case subp => k_is); (case subq => kernel_rfl)))
    (case c11_ => (refine' Sk.s_codeIn ?subp ?subq; (case subp => k_is); (case subq => kernel_rfl)))
    (case k11 => (refine' Sk.s_keepIn ?subp ?subq; (case subp => k_is); (case subq => kernel_rfl)))
    (case a12 => (refine' Sk.s_nsIn ?subp ?subq; (case subp => k_is); (case subq => kernel_rfl)))
    (case l12 => (refine' Sk.s_lookup ?subp ?subq; (case subp => k_is); (case subq => kernel_rfl)))
    (case c12_ => (refine' Sk.s_codeIn ?subp ?subq; (case subp => k_is); (case subq => kernel_rfl)))
    (case k12 => (refine' Sk.s_keepIn ?subp ?subq; (case subp => k_is); (case subq => kernel_rfl)))
    (case a13 => (refine' Sk.s_nsIn ?subp ?subq; (case subp => k_is); (case subq => kernel_rfl)))
    (case l13 => (refine' Sk.s_lookup ?subp ?subq; (case subp => k_is); (case subq => kernel_rfl)))
    (case c13_ => (refine' Sk.s_codeIn ?subp ?subq; (case subp => k_is); (case subq => kernel_rfl)))
    (case k13 => (refine' Sk.s_keepIn ?subp ?subq; (case subp => k_is); (case subq => kernel_rfl)))
    (case a14 => (refine' Sk.s_nsIn ?subp ?subq; (case subp => k_is); (case subq => kernel_rfl)))
    (case l14 => (refine' Sk.s_lookup ?subp ?subq; (case subp => k_is); (case subq => kernel_rfl)))
    (case c14_ => (refine' Sk.s_codeIn ?subp ?subq; (case subp => k_is); (case subq => kernel_rfl)))
    (case k14 => (refine' Sk.s_keepIn ?subp ?subq; (case subp => k_is); (case subq => kernel_rfl)))
    (case a15 => (refine' Sk.s_nsIn ?subp ?subq; (case subp => k_is); (case subq => kernel_rfl)))
    (case l15 => (refine' Sk.s_lookup ?subp ?subq; (case subp => k_is); (case subq => kernel_rfl)))
    (case c15_ => (refine' Sk.s_codeIn ?subp ?subq; (case subp => k_is); (case subq => kernel_rfl)))
    (case k15 => (refine' Sk.s_keepIn ?subp ?subq; (case subp => k_is); (case subq => kernel_rfl)))
    (case a16 => (refine' Sk.s_nsIn ?subp ?subq; (case subp => k_is); (case subq => kernel_rfl)))
    (case l16 => (refine' Sk.s_lookup ?subp ?subq; (case subp => k_is); (case subq => kernel_rfl)))
    (case c16_ => (refine' Sk.s_codeIn ?subp ?subq; (case subp => k_is); (case subq => kernel_rfl)))
    (case k16 => (refine' Sk.s_keepIn ?subp ?subq; (case subp => k_is); (case subq => kernel_rfl)))
    (case a17 => (refine' Sk.s_nsIn ?subp ?subq; (case subp => k_is); (case subq => kernel_rfl)))
    (case l17 => (refine' Sk.s_lookup ?subp ?subq; (case subp => k_is); (case subq => kernel_rfl)))
    (case c17_ => (refine' Sk.s_codeIn ?subp ?subq; (case subp => k_is); (case subq => kernel_rfl)))
    (case k17 => (refine' Sk.s_keepIn ?subp ?subq; (case subp => k_is); (case subq => kernel_rfl)))
    (case a18 => (refine' Sk.s_nsIn ?subp ?subq; (case subp => k_is); (case subq => kernel_rfl)))
    (case l18 => (refine' Sk.s_lookup ?subp ?subq; (case subp => k_is); (case subq => kernel_rfl)))
    (case c18_ => (refine' Sk.s_codeIn ?subp ?subq; (case subp => k_is); (case subq => kernel_rfl)))
    (case k18 => (refine' Sk.s_keepIn ?subp ?subq; (case subp => k_is); (case subq => kernel_rfl)))
    (case a19 => (refine' Sk.s_nsIn ?subp ?subq; (case subp => k_is); (case subq => kernel_rfl)))
    (case l19 => (refine' Sk.s_lookup ?subp ?subq; (case subp => k_is); (case subq => kernel_rfl)))
    (case c19_ => (refine' Sk.s_codeIn ?subp ?subq; (case subp => k_is); (case subq => kernel_rfl)))
    (case k19 => (refine' Sk.s_keepIn ?subp ?subq; (case subp => k_is); (case subq => kernel_rfl)))
    (case a20 => (refine' Sk.s_nsIn ?subp ?subq; (case subp => k_is); (case subq => kernel_rfl)))
    (case l20 => (refine' Sk.s_lookup ?subp ?subq; (case subp => k_is); (case subq => kernel_rfl)))
    (case c20_ => (refine' Sk.s_codeIn ?subp ?subq; (case subp => k_is); (case subq => kernel_rfl)))
    (case k20 => (refine' Sk.s_keepIn ?subp ?subq; (case subp => k_is); (case subq => kernel_rfl)))
    (case a21 => (refine' Sk.s_nsIn ?subp ?subq; (case subp => k_is); (case subq => kernel_rfl)))
    (case l21 => (refine' Sk.s_lookup ?subp ?subq; (case subp => k_is); (case subq => kernel_rfl)))
    (case c21_ => (refine' Sk.s_codeIn ?subp ?subq; (case subp => k_is); (case subq => kernel_rfl)))
    (case k21 => (refine' Sk.s_keepIn ?subp ?subq; (case subp => k_is); (case subq => kernel_rfl)))
    (case a22 => (refine' Sk.s_nsIn ?subp ?subq; (case subp => k_is); (case subq => kernel_rfl)))
    (case l22 => (refine' Sk.s_lookup ?subp ?subq; (case subp => k_is); (case subq => kernel_rfl)))
    (case c22_ => (refine' Sk.s_codeIn ?subp ?subq; (case subp => k_is); (case subq => kernel_rfl)))
    (case k22 => (refine' Sk.s_keepIn ?subp ?subq; (case subp => k_is); (case subq => kernel_rfl)))
    (case a23 => (refine' Sk.s_nsIn ?subp ?subq; (case subp => k_is); (case subq => kernel_rfl)))
    (case l23 => (refine' Sk.s_lookup ?subp ?subq; (case subp => k_is); (case subq => kernel_rfl)))
    (case c23_ => (refine' Sk.s_codeIn ?subp ?subq; (case subp => k_is); (case subq => kernel_rfl)))
    (case k23 => (refine' Sk.s_keepIn ?subp ?subq; (case subp => k_is); (case subq => kernel_rfl)))
    (case aS => (refine' Sk.s_nsIn ?subp ?subq; (case subp => k_is); (case subq => kernel_rfl)))
    (case A0 => (refine' Sk.s_nsIn ?subp ?subq; (case subp => k_is); (case subq => kernel_rfl)))
    (case B0 => (refine' Sk.s_lookup ?subp ?subq; (case subp => k_is); (case subq => kernel_rfl)))
    (case C0 => (refine' Sk.s_findIn ?subp ?subq; (case subp => k_is); (case subq => kernel_rfl)))
    (case D0 => (refine' Sk.s_findIn ?subp ?subq; (case subp => k_is); (case subq => kernel_rfl)))
    (case E0 => (refine' Sk.s_findIn ?subp ?subq; (case subp => k_is); (case subq => kernel_rfl)))
    (case F0 => (refine' Sk.s_findIn ?subp ?subq; (case subp => k_is); (case subq => kernel_rfl)))
    (case G0 => (refine' Sk.s_findIn ?subp ?subq; (case subp => k_is); (case subq => kernel_rfl)))
    (case H0 => (refine' Sk.s_typeIn ?subp ?subq; (case subp => k_is); (case subq => kernel_rfl)))
    (case I0 => (refine' Sk.s_keepIn ?subp ?subq; (case subp => k_is); (case subq => kernel_rfl)))
    (case J0 => (refine' Sk.s_subIn ?subp ?subq; (case subp => k_is); (case subq => kernel_rfl)))
    (case K0 => (refine' Sk.s_typeIn ?subp ?subq; (case subp => k_is); (case subq => kernel_rfl)))
    (case L0 => (refine' Sk.s_hasDictIn ?subp ?subq; (case subp => k_is); (case subq => kernel_rfl)))
    (case M0 => (refine' Sk.s_lookup ?subp ?subq; (case subp => k_is); (case subq => kernel_rfl)))
    (case O0 => (refine' Sk.s_codeIn ?subp ?subq; (case subp => k_is); (case subq => kernel_rfl)))
    (case P0 => first | kernel_rfl | rfl | decide +kernel)
    (case Q0 => (refine' Sk.s_findIn ?subp ?subq; (case subp => k_is); (case subq => kernel_rfl)))
    (case U0 => (refine' Sk.s_mroIn ?subp ?subq; (case subp => k_is); (case subq => kernel_rfl)))
    (case X0 => (refine' Sk.s_specialIn ?subp ?subq; (case subp => k_is); (case subq => kernel_rfl)))
    (case X1 => (refine' Sk.s_takesIn ?subp ?subq; (case subp => k_is); (case subq => kernel_rfl)))
    (case X2 => first | kernel_rfl | rfl | decide +kernel)
    (case X3 => first | kernel_rfl | rfl | decide +kernel)
    (case X4 => first | kernel_rfl | rfl | decide +kernel)
    (case ex0 => (refine' Sk.s_nsIn ?subp ?subq; (case subp => k_is); (case subq => kernel_rfl)))
    (case ex1 => (refine' Sk.s_nsIn ?subp ?subq; (case subp => k_is); (case subq => kernel_rfl)))
    (case ex2 => (refine' Sk.s_nsIn ?subp ?subq; (case subp => k_is); (case subq => kernel_rfl)))
    (case ex3 => (refine' Sk.s_nsIn ?subp ?subq; (case subp => k_is); (case subq => kernel_rfl)))
    (case X10 => (refine' Sk.s_nsIn ?subp ?subq; (case subp => k_is); (case subq => kernel_rfl)))
    (case X11 => (refine' Sk.s_specialIn ?subp ?subq; (case subp => k_is); (case subq => kernel_rfl)))
    (case X12 => (refine' Sk.s_takesIn ?subp ?subq; (case subp => k_is); (case subq => kernel_rfl)))
    (case X13 => (refine' Sk.s_nsIn ?subp ?subq; (case subp => k_is); (case subq => kernel_rfl)))
    (case X14 => (refine' Sk.s_plainGet ?subp ?subq; (case subp => k_is); (case subq => kernel_rfl)))
    (case X15 => (refine' Sk.s_hasDictIn ?subp ?subq; (case subp => k_is); (case subq => kernel_rfl)))
    (case X16 => (refine' Sk.s_plainOver ?subp ?subq; (case subp => k_is); (case subq => kernel_rfl)))
    (case X17 => (refine' Sk.s_findIn ?subp ?subq; (case subp => k_is); (case subq => kernel_rfl)))
    (case X18 => (refine' Sk.s_findIn ?subp ?subq; (case subp => k_is); (case subq => kernel_rfl)))
    (case X19 => (refine' Sk.s_findIn ?subp ?subq; (case subp => k_is); (case subq => kernel_rfl)))
    (case X20 => (refine' Sk.s_findIn ?subp ?subq; (case subp => k_is); (case subq => kernel_rfl)))
    (case X21 => (refine' Sk.s_findIn ?subp ?subq; (case subp => k_is); (case subq => kernel_rfl)))
    (case X22 => (refine' Sk.s_mroIn ?subp ?subq; (case subp => k_is); (case subq => kernel_rfl)))
    (case X23 => first | kernel_rfl | rfl | decide +kernel)
    (case X24 => first | kernel_rfl | rfl | decide +kernel)
    (case X25 => (refine' Sk.s_makesIn ?subp ?subq; (case subp => k_is); (case subq => kernel_rfl)))
    (case X26 => (refine' Sk.s_keepIn ?subp ?subq; (case subp => k_is); (case subq => kernel_rfl)))
    (case X27 => (refine' Sk.s_readsIn ?subp ?subq; (case subp => k_is); (case subq => kernel_rfl)))
    (case X28 => (refine' Sk.s_specialIn ?subp ?subq; (case subp => k_is); (case subq => kernel_rfl)))
    (case X29 => (refine' Sk.s_nsIn ?subp ?subq; (case subp => k_is); (case subq => kernel_rfl)))
    (case X30 => (refine' Sk.s_plainGet ?subp ?subq; (case subp => k_is); (case subq => kernel_rfl)))
    (case X31 => (refine' Sk.s_hasDictIn ?subp ?subq; (case subp => k_is); (case subq => kernel_rfl)))
    (case X32 => (refine' Sk.s_plainOver ?subp ?subq; (case subp => k_is); (case subq => kernel_rfl)))
    (case X33 => (refine' Sk.s_findIn ?subp ?subq; (case subp => k_is); (case subq => kernel_rfl)))
    (case X34 => (refine' Sk.s_findIn ?subp ?subq; (case subp => k_is); (case subq => kernel_rfl)))
    (case X35 => (refine' Sk.s_findIn ?subp ?subq; (case subp => k_is); (case subq => kernel_rfl)))
    (case X36 => (refine' Sk.s_findIn ?subp ?subq; (case subp => k_is); (case subq => kernel_rfl)))
    (case X37 => (refine' Sk.s_findIn ?subp ?subq; (case subp => k_is); (case subq => kernel_rfl)))
    (case X38 => (refine' Sk.s_findIn ?subp ?subq; (case subp => k_is); (case subq => kernel_rfl)))
    (case X39 => (refine' Sk.s_findIn ?subp ?subq; (case subp => k_is); (case subq => kernel_rfl)))
    (case X40 => (refine' Sk.s_mroIn ?subp ?subq; (case subp => k_is); (case subq => kernel_rfl)))
    (case X41 => first | kernel_rfl | rfl | decide +kernel)
    (case X42 => first | kernel_rfl | rfl | decide +kernel)
    (case X43 => (refine' Sk.s_makesIn ?subp ?subq; (case subp => k_is); (case subq => kernel_rfl)))
    (case X44 => (refine' Sk.s_keepIn ?subp ?subq; (case subp => k_is); (case subq => kernel_rfl)))
    (case X45 => (refine' Sk.s_readsIn ?subp ?subq; (case subp => k_is); (case subq => kernel_rfl)))
    (case X46 => (refine' Sk.s_specialIn ?subp ?subq; (case subp => k_is); (case subq => kernel_rfl)))
    (case X47 => (refine' Sk.s_findIn ?subp ?subq; (case subp => k_is); (case subq => kernel_rfl)))
    (case X48 => (refine' Sk.s_isFn ?subp ?subq; (case subp => k_is); (case subq => kernel_rfl)))
    (case X49 => (refine' Sk.s_lookup ?subp ?subq; (case subp => k_is); (case subq => kernel_rfl)))
    (case X50 => (refine' Sk.s_codeIn ?subp ?subq; (case subp => k_is); (case subq => kernel_rfl)))
    (case X51 => (refine' Sk.s_keepIn ?subp ?subq; (case subp => k_is); (case subq => kernel_rfl)))
    (case X52 => (refine' Sk.s_findCls ?subp ?subq; (case subp => k_is); (case subq => kernel_rfl)))
    (case X53 => (refine' Sk.s_recIn ?subp ?subq; (case subp => k_is); (case subq => kernel_rfl)))
    (case X54 => (refine' Sk.s_fnIn ?subp ?subq; (case subp => k_is); (case subq => kernel_rfl)))
    (case X55 => (refine' Sk.s_isFn ?subp ?subq; (case subp => k_is); (case subq => kernel_rfl)))
    (case X56 => (refine' Sk.s_lookup ?subp ?subq; (case subp => k_is); (case subq => kernel_rfl)))
    (case X57 => (refine' Sk.s_codeIn ?subp ?subq; (case subp => k_is); (case subq => kernel_rfl)))
    (case X58 => (refine' Sk.s_keepIn ?subp ?subq; (case subp => k_is); (case subq => kernel_rfl)))
    (case X59 => (refine' Sk.s_findIn ?subp ?subq; (case subp => k_is); (case subq => kernel_rfl)))
    (case X60 => (refine' Sk.s_isFn ?subp ?subq; (case subp => k_is); (case subq => kernel_rfl)))
    (case X61 => (refine' Sk.s_lookup ?subp ?subq; (case subp => k_is); (case subq => kernel_rfl)))
    (case X62 => (refine' Sk.s_codeIn ?subp ?subq; (case subp => k_is); (case subq => kernel_rfl)))
    (case X63 => (refine' Sk.s_keepIn ?subp ?subq; (case subp => k_is); (case subq => kernel_rfl)))
    (case X64 => (refine' Sk.s_findIn ?subp ?subq; (case subp => k_is); (case subq => kernel_rfl)))
    (case X65 => (refine' Sk.s_isFn ?subp ?subq; (case subp => k_is); (case subq => kernel_rfl)))
    (case X66 => (refine' Sk.s_lookup ?subp ?subq; (case subp => k_is); (case subq => kernel_rfl)))
    (case X67 => (refine' Sk.s_codeIn ?subp ?subq; (case subp => k_is); (case subq => kernel_rfl)))
    (case X68 => (refine' Sk.s_keepIn ?subp ?subq; (case subp => k_is); (case subq => kernel_rfl)))
    (case X69 => (refine' Sk.s_findCls ?subp ?subq; (case subp => k_is); (case subq => kernel_rfl)))
    (case X70 => (refine' Sk.s_recIn ?subp ?subq; (case subp => k_is); (case subq => kernel_rfl)))
    (case X71 => (refine' Sk.s_fnIn ?subp ?subq; (case subp => k_is); (case subq => kernel_rfl)))
    (case X72 => (refine' Sk.s_isFn ?subp ?subq; (case subp => k_is); (case subq => kernel_rfl)))
    (case X73 => (refine' Sk.s_lookup ?subp ?subq; (case subp => k_is); (case subq => kernel_rfl)))
    (case X74 => (refine' Sk.s_codeIn ?subp ?subq; (case subp => k_is); (case subq => kernel_rfl)))
    (case X75 => (refine' Sk.s_keepIn ?subp ?subq; (case subp => k_is); (case subq => kernel_rfl)))
    (case X76 => (refine' Sk.s_findIn ?subp ?subq; (case subp => k_is); (case subq => kernel_rfl)))
    (case X77 => (refine' Sk.s_isFn ?subp ?subq; (case subp => k_is); (case subq => kernel_rfl)))
    (case X78 => (refine' Sk.s_lookup ?subp ?subq; (case subp => k_is); (case subq => kernel_rfl)))
    (case X79 => (refine' Sk.s_codeIn ?subp ?subq; (case subp => k_is); (case subq => kernel_rfl)))
    (case X80 => (refine' Sk.s_keepIn ?subp ?subq; (case subp => k_is); (case subq => kernel_rfl)))
    (case X81 => first | kernel_rfl | rfl | decide +kernel)
    (case z0 => (refine' Sk.s_nsIn ?subp ?subq; (case subp => k_is); (case subq => kernel_rfl)))
    (case z1 => (refine' Sk.s_nsIn ?subp ?subq; (case subp => k_is); (case subq => kernel_rfl)))
    (case z2 => (refine' Sk.s_nsIn ?subp ?subq; (case subp => k_is); (case subq => kernel_rfl)))
    (case z3 => (refine' Sk.s_nsIn ?subp ?subq; (case subp => k_is); (case subq => kernel_rfl)))
    (case z4 => (refine' Sk.s_nsIn ?subp ?subq; (case subp => k_is); (case subq => kernel_rfl)))
    (case z5 => (refine' Sk.s_nsIn ?subp ?subq; (case subp => k_is); (case subq => kernel_rfl)))
    (case z6 => (refine' Sk.s_nsIn ?subp ?subq; (case subp => k_is); (case subq => kernel_rfl)))
    (case z7 => (refine' Sk.s_nsIn ?subp ?subq; (case subp => k_is); (case subq => kernel_rfl)))
    (case z8 => (refine' Sk.s_nsIn ?subp ?subq; (case subp => k_is); (case subq => kernel_rfl)))
    (case z9 => (refine' Sk.s_nsIn ?subp ?subq; (case subp => k_is); (case subq => kernel_rfl)))
    (case z10 => (refine' Sk.s_nsIn ?subp ?subq; (case subp => k_is); (case subq => kernel_rfl)))
    (case z11 => (refine' Sk.s_nsIn ?subp ?subq; (case subp => k_is); (case subq => kernel_rfl)))

