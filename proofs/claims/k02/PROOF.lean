import PyProof.Rows.All
import Wide.All
import OpenK.AllK
import Wide.FinOn
import PyProof.EqAt
import PyProof.EqKinds
import PyProof.TupleCall
import PyProof.ReprRoads
import HandS.Base
import HandS.Call
import HandS.List
import HandS.Dict
import PyProof.ReprBulk
import PyProof.ReprRoom
import PyProof.FitsInt
import KE.KMathG
import HandS.Gcd
import HandS.Ends
import HandS.Words
import HandS.EndBits
import KE.KSuper
import KE.KExcInit
import KE.KIsAll
import KE.KExcIs
import HandS.Exc
import HandS.ExcSuper
import HandS.ExcIs
import HandS.TryMany
import HandS.ForMost
import HandS.Wide
import HandS.Style
import HandS.Conv
import HandS.IsInst
import HandS.Flow
import HandS.TupAny
import HandS.Evl
import HandS.WordsExc
import HandS.ExcOwn
import HandS.TryOnly
import PySem.Challenge.RW_eyeorder_k02_places_by_coordinates
set_option Elab.async false
set_option linter.all false
set_option exponentiation.threshold 3000
set_option maxRecDepth 100000
set_option maxHeartbeats 4000000

namespace Ey
open PySem PySem.Spec PyProof.Rows L2

mutual
/-- data that stands in a heap: what repr needs to know of it -/
inductive Rdd (h : Heap) : Value → PyData → Prop
  | non : Rdd h .none .none
  | bl (b : Bool) : Rdd h (.bool b) (.bool b)
  | int (i : Int) (t : Tok) : Rdd h (.int i t) (.int i)
  | str (x : Str) (t : Tok) : Rdd h (.str x t) (.str x)
  | lst {a : Addr} {o : Obj} {vs : Array Value} {n : Nat} {xs : List PyData} : h.get? a = some o → o.cls = .type "list" → o.data = .seq vs n → RddAll h vs.toList xs → Rdd h (.ref a) (.list xs)
  | tup {a : Addr} {o : Obj} {vs : Array Value} {n : Nat} {xs : List PyData} : h.get? a = some o → o.cls = .type "tuple" → o.data = .seq vs n → RddAll h vs.toList xs → Rdd h (.ref a) (.tuple xs)
  | dic {a : Addr} {o : Obj} {es : Array DictEntry} {n : Nat} {ks : List (PyData × PyData)} : h.get? a = some o → o.cls = .type "dict" → o.data = .dict es n → (a == sysModules) = false →
      RddAll h (es.toList.map (·.key)) (ks.map (·.1)) → RddAll h (es.toList.map (·.val)) (ks.map (·.2)) → Rdd h (.ref a) (.dict ks)
inductive RddAll (h : Heap) : List Value → List PyData → Prop
  | nil : RddAll h [] []
  | cons {v : Value} {vs : List Value} {d : PyData} {ds : List PyData} : Rdd h v d → RddAll h vs ds → RddAll h (v :: vs) (d :: ds)
end

section
variable {h : Heap}
mutual
theorem Rdd.reads : ∀ {v : Value} {d : PyData}, Rdd h v d → ∃ as, Reads h v d as
  | _, _, .non => ⟨_, .none⟩
  | _, _, .bl b => ⟨_, .bool b⟩
  | _, _, .int i t => ⟨_, .int i t⟩
  | _, _, .str x t => ⟨_, .str x t⟩
  | _, _, .lst e1 e2 e3 e4 => let ⟨_, r⟩ := e4.reads; ⟨_, .list e1 e2 e3 r⟩
  | _, _, .tup e1 e2 e3 e4 => let ⟨_, r⟩ := e4.reads; ⟨_, .tuple e1 e2 e3 r⟩
  | _, _, .dic e1 e2 e3 _ e4 e5 => let ⟨_, r⟩ := e4.reads; let ⟨_, q⟩ := e5.reads; ⟨_, .dict e1 e2 e3 r q⟩
theorem RddAll.reads : ∀ {vs : List Value} {ds : List PyData}, RddAll h vs ds → ∃ as, ReadsAll h vs ds as
  | _, _, .nil => ⟨_, .nil⟩
  | _, _, .cons a b => let ⟨_, r⟩ := a.reads; let ⟨_, q⟩ := b.reads; ⟨_, .cons r q⟩
end
end

section
variable {prog : Program} {w : World} {h₀ : Heap}
mutual
theorem Rdd.k : ∀ {v : Value} {d : PyData}, Rdd h₀ v d → d.showable = true → d.shown.length ≤ sizeLine → ∃ bs, ReadAtMost h₀ d.depth bs ∧ ReprK prog w bs h₀ d.depth v d.shown
  | _, _, .non, _, _ => ⟨[], (fun _ q => nomatch q), by simp only [PyData.shown]; exact ReprK.of_is ReprIs.none [] h₀ _⟩
  | _, _, .bl b, _, _ => ⟨[], (fun _ q => nomatch q), by simp only [PyData.shown]; exact ReprK.of_is (ReprIs.bool b) [] h₀ _⟩
  | _, _, .int i t, hs, _ => ⟨[], (fun _ q => nomatch q), by simp only [PyData.shown]; exact ReprK.of_is (ReprIs.int t (by simpa [PyData.showable] using hs)) [] h₀ _⟩
  | _, _, .str x t, _, hz => ⟨[], (fun _ q => nomatch q), by simp only [PyData.shown]; exact ReprK.of_is (ReprIs.str x t (by simpa only [PyData.shown] using hz)) [] h₀ _⟩
  | _, _, .lst (a := a) (vs := vs) (xs := xs) e1 e2 e3 e4, hs, hz => by
    have z : (listText (PyData.shownAll xs)).length ≤ sizeLine := by simpa only [PyData.shown] using hz
    obtain ⟨bs, hb, hk⟩ := RddAll.k e4 (by simpa [PyData.showable] using hs) (fun t ht => Nat.le_trans (listText_mem_le ht) z)
    obtain ⟨_, r⟩ := Rdd.reads (Rdd.lst e1 e2 e3 e4)
    have na : a ∉ bs := not_mem_of_deeper r (by simp only [PyData.depth]; omega) hb
    refine ⟨a :: bs, ReadAtMost.cons r (by simp only [PyData.depth]; omega) hb, ?_⟩
    simp only [PyData.depth, PyData.shown]
    obtain ⟨l⟩ := vs
    cases l with
    | nil =>
      have e5 : RddAll h₀ [] xs := e4
      cases e5
      simp only [PyData.shownAll, listText_nil]
      exact ReprK.listEmpty e1 e2 e3
    | cons x l => exact ReprK.list e1 e2 e3 na (by simpa using hk.length_eq) (fun i y e => hk.item i y (by simpa using e))
  | _, _, .tup (a := a) (xs := xs) e1 e2 e3 e4, hs, hz => by
    have z : (tupleText (PyData.shownAll xs)).length ≤ sizeLine := by simpa only [PyData.shown] using hz
    obtain ⟨bs, hb, hk⟩ := RddAll.k e4 (by simpa [PyData.showable] using hs) (fun t ht => Nat.le_trans (tupleText_mem_le ht) z)
    obtain ⟨_, r⟩ := Rdd.reads (Rdd.tup e1 e2 e3 e4)
    have na : a ∉ bs := not_mem_of_deeper r (by simp only [PyData.depth]; omega) hb
    refine ⟨a :: bs, ReadAtMost.cons r (by simp only [PyData.depth]; omega) hb, ?_⟩
    simp only [PyData.depth, PyData.shown]
    exact ReprK.tuple e1 e2 e3 na hk
  | _, _, .dic (a := a) (es := es) (ks := ks) e1 e2 e3 e6 e4 e5, hs, hz => by
    have z : (dictText (PyData.shownKv ks)).length ≤ sizeLine := by simpa only [PyData.shown] using hz
    obtain ⟨s1, s2⟩ := PyData.showableKv_split ks (by simpa [PyData.showable] using hs)
    obtain ⟨b1, hb1, k1⟩ := RddAll.k e4 s1 (fun t ht => let ⟨p, hp, hl⟩ := PyData.shownKv_key_le ks t ht; Nat.le_trans hl (Nat.le_trans (dictText_mem_le hp) z))
    obtain ⟨b2, hb2, k2⟩ := RddAll.k e5 s2 (fun t ht => let ⟨p, hp, hl⟩ := PyData.shownKv_val_le ks t ht; Nat.le_trans hl (Nat.le_trans (dictText_mem_le hp) z))
    obtain ⟨_, r⟩ := Rdd.reads (Rdd.dic e1 e2 e3 e6 e4 e5)
    have hb : ReadAtMost h₀ (PyData.depthKv ks) (b1 ++ b2) := (hb1.mono (PyData.depthAll_keys_le ks)).append (hb2.mono (PyData.depthAll_vals_le ks))
    have na : a ∉ b1 ++ b2 := not_mem_of_deeper r (by simp only [PyData.depth]; omega) hb
    refine ⟨a :: (b1 ++ b2), ReadAtMost.cons r (by simp only [PyData.depth]; omega) hb, ?_⟩
    simp only [PyData.depth, PyData.shown, PyData.shownKv_eq]
    exact ReprK.dict e1 e2 e3 e6 na (ReprEntriesK.of_two es.toList _ _
      (k1.more_le (fun b hm => List.mem_append_left _ hm) (PyData.depthAll_keys_le ks)) (k2.more_le (fun b hm => List.mem_append_right _ hm) (PyData.depthAll_vals_le ks)))
theorem RddAll.k : ∀ {vs : List Value} {ds : List PyData}, RddAll h₀ vs ds → PyData.showableAll ds = true → (∀ t ∈ PyData.shownAll ds, t.length ≤ sizeLine) →
    ∃ bs, ReadAtMost h₀ (PyData.depthAll ds) bs ∧ ReprAllK prog w bs h₀ (PyData.depthAll ds) vs (PyData.shownAll ds)
  | _, _, .nil, _, _ => ⟨[], (fun _ q => nomatch q), by simp only [PyData.shownAll]; exact .nil⟩
  | _, _, .cons (d := d) (ds := ds) r rs, hs, hz => by
    have s2 : d.showable = true ∧ PyData.showableAll ds = true := by simpa [PyData.showableAll] using hs
    obtain ⟨b1, hb1, k1⟩ := Rdd.k r s2.1 (hz _ (by simp only [PyData.shownAll]; exact List.mem_cons_self ..))
    obtain ⟨b2, hb2, k2⟩ := RddAll.k rs s2.2 (fun t ht => hz t (by simp only [PyData.shownAll]; exact List.mem_cons_of_mem _ ht))
    refine ⟨b1 ++ b2, ?_, ?_⟩
    · simp only [PyData.depthAll]
      exact (hb1.mono (Nat.le_max_left _ _)).append (hb2.mono (Nat.le_max_right _ _))
    · simp only [PyData.depthAll, PyData.shownAll]
      exact .cons ((k1.more fun b hm => List.mem_append_left _ hm).level_le (Nat.le_max_left _ _)) (k2.more_le (fun b hm => List.mem_append_right _ hm) (Nat.le_max_right _ _))
end


theorem call_repr_any : ∀ {v : Value} {d : PyData}, Rdd h₀ v d → d.showable = true → d.shown.length ≤ sizeLine →
    ∀ (A : Around) (E : Value → Shared → Prop) (s : Shared) (Q : Value → Shared → Prop), A.guards = some [] → A.units + (d.depth + 1) < cLine → (∀ b o, h₀.get? b = some o → s.heap.get? b = some o) →
    (∀ h' u tk, (∀ b o, s.heap.get? b = some o → h'.get? b = some o) → Q (.str d.shown u) { s with heap := h', toks := tk }) → wpAny (model prog w) A (call (.builtin "repr") [v]) Q E s
  | _, _, .non, _, _, A, E, s, Q, _, _, _, hQ => by
    simp only [PyData.shown] at hQ
    exact P.repr_of_none (hQ s.heap _ _ fun _ _ e => e)
  | _, _, .bl b, _, _, A, E, s, Q, _, _, _, hQ => by
    simp only [PyData.shown] at hQ
    exact P.repr_of_bool (hQ s.heap _ _ fun _ _ e => e)
  | _, _, .int i t, hs, _, A, E, s, Q, _, _, _, hQ => by
    simp only [PyData.shown] at hQ
    exact P.repr_of_int (by simpa [PyData.showable] using hs) (hQ s.heap _ _ fun _ _ e => e)
  | _, _, .str x t, _, hz, A, E, s, Q, _, _, _, hQ => by
    simp only [PyData.shown] at hQ
    exact P.repr_of_str (hQ s.heap _ _ fun _ _ e => e) (by simpa only [PyData.shown] using hz)
  | _, _, .lst (a := a) (vs := vs) (xs := xs) e1 e2 e3 e4, hs, hz, A, E, s, Q, hg, hu, hk0, hQ => by
    have z : (listText (PyData.shownAll xs)).length ≤ sizeLine := by simpa only [PyData.shown] using hz
    obtain ⟨bs, hb, hk⟩ := RddAll.k (prog := prog) (w := w) e4 (by simpa [PyData.showable] using hs) (fun t ht => Nat.le_trans (listText_mem_le ht) z)
    obtain ⟨_, r⟩ := Rdd.reads (Rdd.lst e1 e2 e3 e4)
    have na : a ∉ bs := not_mem_of_deeper r (by simp only [PyData.depth]; omega) hb
    simp only [PyData.depth] at hu
    simp only [PyData.shown] at hQ
    refine call_repr_slot (by omega) ⟨_, hk0 _ _ e1, e2⟩ F.slot_list_repr.toG ?_
    obtain ⟨l⟩ := vs
    cases l with
    | nil =>
      have e5 : RddAll h₀ [] xs := e4
      cases e5
      simp only [PyData.shownAll, listText_nil] at hQ
      exact call_list_repr_empty ⟨_, hk0 _ _ e1, e2⟩ (hk0 _ _ e1) e3 ⟨_, _, rfl, hQ s.heap _ _ fun _ _ e => e⟩
    | cons x l =>
      exact call_list_reprK e1 e2 e3 na (by simpa using hk.length_eq) (fun i y e => hk.item i y (by simpa using e)) hg (fun b _ => Clear.nil b) (by show A.units + 1 + _ < cLine; omega) hk0 (fun h' u tk k => ⟨_, _, rfl, hQ h' u tk k⟩) z
  | _, _, .tup (a := a) (xs := xs) e1 e2 e3 e4, hs, hz, A, E, s, Q, hg, hu, hk0, hQ => by
    have z : (tupleText (PyData.shownAll xs)).length ≤ sizeLine := by simpa only [PyData.shown] using hz
    obtain ⟨bs, hb, hk⟩ := RddAll.k (prog := prog) (w := w) e4 (by simpa [PyData.showable] using hs) (fun t ht => Nat.le_trans (tupleText_mem_le ht) z)
    obtain ⟨_, r⟩ := Rdd.reads (Rdd.tup e1 e2 e3 e4)
    have na : a ∉ bs := not_mem_of_deeper r (by simp only [PyData.depth]; omega) hb
    simp only [PyData.depth] at hu
    simp only [PyData.shown] at hQ
    refine call_repr_slot (by omega) ⟨_, hk0 _ _ e1, e2⟩ F.slot_tuple_repr ?_
    exact call_tuple_reprK e1 e2 e3 na hk hg (fun b _ => Clear.nil b) (by show A.units + 1 + _ < cLine; omega) hk0 (fun h' u tk k => ⟨_, _, rfl, hQ h' u tk k⟩) z
  | _, _, .dic (a := a) (es := es) (ks := ks) e1 e2 e3 e6 e4 e5, hs, hz, A, E, s, Q, hg, hu, hk0, hQ => by
    have z : (dictText (PyData.shownKv ks)).length ≤ sizeLine := by simpa only [PyData.shown] using hz
    obtain ⟨s1, s2⟩ := PyData.showableKv_split ks (by simpa [PyData.showable] using hs)
    obtain ⟨b1, hb1, k1⟩ := RddAll.k (prog := prog) (w := w) e4 s1 (fun t ht => let ⟨p, hp, hl⟩ := PyData.shownKv_key_le ks t ht; Nat.le_trans hl (Nat.le_trans (dictText_mem_le hp) z))
    obtain ⟨b2, hb2, k2⟩ := RddAll.k (prog := prog) (w := w) e5 s2 (fun t ht => let ⟨p, hp, hl⟩ := PyData.shownKv_val_le ks t ht; Nat.le_trans hl (Nat.le_trans (dictText_mem_le hp) z))
    obtain ⟨_, r⟩ := Rdd.reads (Rdd.dic e1 e2 e3 e6 e4 e5)
    have hb : ReadAtMost h₀ (PyData.depthKv ks) (b1 ++ b2) := (hb1.mono (PyData.depthAll_keys_le ks)).append (hb2.mono (PyData.depthAll_vals_le ks))
    have na : a ∉ b1 ++ b2 := not_mem_of_deeper r (by simp only [PyData.depth]; omega) hb
    simp only [PyData.depth] at hu
    simp only [PyData.shown, PyData.shownKv_eq] at hQ
    refine call_repr_slot (by omega) ⟨_, hk0 _ _ e1, e2⟩ F.slot_dict_repr ?_
    exact call_dict_reprK e1 e2 e3 e6 na (ReprEntriesK.of_two es.toList _ _
      (k1.more_le (fun b hm => List.mem_append_left _ hm) (PyData.depthAll_keys_le ks)) (k2.more_le (fun b hm => List.mem_append_right _ hm) (PyData.depthAll_vals_le ks)))
      hg (fun b _ => Clear.nil b) (by show A.units + 1 + _ < cLine; omega) hk0 (fun h' u tk k => ⟨_, _, rfl, hQ h' u tk k⟩) (by rw [← PyData.shownKv_eq]; exact z)
end

/-! ### data over the abstract heap -/
/-- a key as data -/
def kD : Key → PyData
  | .inl i => .int i
  | .inr x => .str x
mutual
/-- data: lists and dicts at addresses of which F holds -/
inductive Dd (F : Addr → Prop) (H : Hp) : V → PyData → Prop
  | non : Dd F H .non .none
  | bl (b : Bool) : Dd F H (.bl b) (.bool b)
  | int (i : Int) : Dd F H (.int i) (.int i)
  | str (x : Str) : Dd F H (.str x) (.str x)
  | lst {a : Addr} {xs : List V} {ds : List PyData} : F a → H a = some (.lst xs) → DdAll F H xs ds → Dd F H (.ref a) (.list ds)
  | tup {a : Addr} {xs : List V} {ds : List PyData} : H a = some (.tup xs) → DdAll F H xs ds → Dd F H (.ref a) (.tuple ds)
  | dic {a : Addr} {kvs : List (Key × V)} {ds : List PyData} : F a → H a = some (.dK kvs) → DdAll F H (kvs.map (·.2)) ds → Dd F H (.ref a) (.dict ((kvs.map fun kv => kD kv.1).zip ds))
inductive DdAll (F : Addr → Prop) (H : Hp) : List V → List PyData → Prop
  | nil : DdAll F H [] []
  | cons {v : V} {vs : List V} {d : PyData} {ds : List PyData} : Dd F H v d → DdAll F H vs ds → DdAll F H (v :: vs) (d :: ds)
end
theorem DdAll.length {F : Addr → Prop} {H : Hp} : ∀ {vs : List V} {ds : List PyData}, DdAll F H vs ds → vs.length = ds.length
  | _, _, .nil => rfl
  | _, _, .cons _ r => by rw [List.length_cons, List.length_cons, DdAll.length r]
section
variable {F : Addr → Prop} {H H' : Hp}
mutual
/-- what the data's objects are, stays -/
theorem Dd.keep (k : ∀ a o, H a = some o → (F a ∨ ∃ xs, o = .tup xs) → H' a = some o) : ∀ {v : V} {d : PyData}, Dd F H v d → Dd F H' v d
  | _, _, .non => .non
  | _, _, .bl b => .bl b
  | _, _, .int i => .int i
  | _, _, .str x => .str x
  | _, _, .lst f e r => .lst f (k _ _ e (.inl f)) (DdAll.keep k r)
  | _, _, .tup e r => .tup (k _ _ e (.inr ⟨_, rfl⟩)) (DdAll.keep k r)
  | _, _, .dic f e r => .dic f (k _ _ e (.inl f)) (DdAll.keep k r)
theorem DdAll.keep (k : ∀ a o, H a = some o → (F a ∨ ∃ xs, o = .tup xs) → H' a = some o) : ∀ {vs : List V} {ds : List PyData}, DdAll F H vs ds → DdAll F H' vs ds
  | _, _, .nil => .nil
  | _, _, .cons a b => .cons (Dd.keep k a) (DdAll.keep k b)
end
mutual
theorem Dd.det : ∀ {v : V} {d e : PyData}, Dd F H v d → Dd F H v e → d = e
  | _, _, _, .non, b => by cases b; rfl
  | _, _, _, .bl _, b => by cases b; rfl
  | _, _, _, .int _, b => by cases b; rfl
  | _, _, _, .str _, b => by cases b; rfl
  | _, _, _, .lst _ e r, b => by
    cases b with
    | lst _ e2 r2 => rw [e] at e2; cases e2; rw [DdAll.det r r2]
    | tup e2 _ => rw [e] at e2; cases e2
    | dic _ e2 _ => rw [e] at e2; cases e2
  | _, _, _, .tup e r, b => by
    cases b with
    | lst _ e2 _ => rw [e] at e2; cases e2
    | tup e2 r2 => rw [e] at e2; cases e2; rw [DdAll.det r r2]
    | dic _ e2 _ => rw [e] at e2; cases e2
  | _, _, _, .dic _ e r, b => by
    cases b with
    | lst _ e2 _ => rw [e] at e2; cases e2
    | tup e2 _ => rw [e] at e2; cases e2
    | dic _ e2 r2 => rw [e] at e2; cases e2; rw [DdAll.det r r2]
theorem DdAll.det : ∀ {vs : List V} {ds es : List PyData}, DdAll F H vs ds → DdAll F H vs es → ds = es
  | _, _, _, .nil, b => by cases b; rfl
  | _, _, _, .cons a r, b => by
    cases b with
    | cons a2 r2 => rw [Dd.det a a2, DdAll.det r r2]
end
end
section
variable {X : Cx} {pins : List (Addr × Obj)} {σ : L2.St} {F : Addr → Prop} {H : Hp} {s : Shared}
theorem keys_rdd {P : Program} {w : World} : ∀ {es : List DictEntry} {kvs : List (Key × Value)}, Pairs (mixKind P w) es kvs → RddAll s.heap (es.map (·.key)) (kvs.map fun kv => kD kv.1)
  | _, _, .nil => .nil
  | _, _, .cons (e := en) (kv := kv) i _ r => by
    refine .cons ?_ (keys_rdd r)
    show Rdd _ en.key (kD kv.1)
    rcases keyIs_shape i with ⟨z, t, e1, e2⟩ | ⟨z, t, e1, e2⟩
    · rw [e1, e2]; exact .int z t
    · rw [e1, e2]; exact .str z t
theorem vals_of_pairs {P : Program} {w : World} : ∀ {es : List DictEntry} {kvs : List (Key × Value)}, Pairs (mixKind P w) es kvs → es.map (·.val) = kvs.map (·.2)
  | _, _, .nil => rfl
  | _, _, .cons _ e r => by rw [List.map_cons, List.map_cons, e, vals_of_pairs r]
theorem kv_keys : ∀ {kvs : List (Key × V)} {ws : List (Key × Value)}, KV kvs ws → (ws.map fun kv => kD kv.1) = kvs.map fun kv => kD kv.1
  | _, _, .nil => rfl
  | _, _, .cons e r => by rw [List.map_cons, List.map_cons, e.1, kv_keys r]
theorem kv_vals : ∀ {kvs : List (Key × V)} {ws : List (Key × Value)}, KV kvs ws → Vals (kvs.map (·.2)) (ws.map (·.2))
  | _, _, .nil => .nil
  | _, _, .cons e r => .cons e.2 (kv_vals r)
mutual
theorem Dd.rdd (I : Inv X pins σ H s) : ∀ {v : V} {d : PyData}, Dd F H v d → ∀ {u : Value}, RelV v u → Rdd s.heap u d
  | _, _, .non, _, r => by cases r; exact .non
  | _, _, .bl b, _, r => by cases r; exact .bl b
  | _, _, .int i, _, r => by obtain ⟨t, rfl⟩ := r; exact .int i t
  | _, _, .str x, _, r => by obtain ⟨t, rfl⟩ := r; exact .str x t
  | _, _, .lst _ e q, _, r => by
    cases r
    obtain ⟨_, its, n, rv, ho⟩ := I.hok _ _ e
    exact .lst ho rfl rfl (DdAll.rdd I q (by simpa using rv))
  | _, _, .tup e q, _, r => by
    cases r
    obtain ⟨_, its, rv, o, ho, hc, n, hd⟩ := I.hok _ _ e
    exact .tup ho hc hd (DdAll.rdd I q (by simpa using rv))
  | _, _, .dic (a := a) (kvs := kvs) (ds := ds) _ e q, _, r => by
    cases r
    obtain ⟨_, hy, ws, rv, o, es, ep, ho, hc, hd, _, hp, _⟩ := (show ObjOk X.prog X.w H s.heap a (.dK kvs) from I.hok _ _ e)
    have hl : (kvs.map fun kv => kD kv.1).length = ds.length := by rw [List.length_map, ← q.length, List.length_map]
    refine .dic ho hc.1 hd hy ?_ ?_
    · rw [List.map_fst_zip (Nat.le_of_eq hl), ← kv_keys rv]
      exact keys_rdd hp
    · rw [List.map_snd_zip (Nat.le_of_eq hl.symm), vals_of_pairs hp]
      exact DdAll.rdd I q (kv_vals rv)
theorem DdAll.rdd (I : Inv X pins σ H s) : ∀ {vs : List V} {ds : List PyData}, DdAll F H vs ds → ∀ {us : List Value}, Vals vs us → RddAll s.heap us ds
  | _, _, .nil, _, r => by cases r; exact .nil
  | _, _, .cons a b, _, r => by
    cases r with
    | cons r1 r2 => exact .cons (Dd.rdd I a r1) (DdAll.rdd I b r2)
end
end
/-- data of bounded size -/
structure Sz (n m : Nat) (d : PyData) : Prop where
  sh : d.showable = true
  ls : d.leavesShort 2000 = true
  bk : d.bulk ≤ n
  dp : d.depth ≤ m
theorem Sz.mono {n m n' m' : Nat} {d : PyData} (z : Sz n m d) (h1 : n ≤ n') (h2 : m ≤ m') : Sz n' m' d := ⟨z.sh, z.ls, Nat.le_trans z.bk h1, Nat.le_trans z.dp h2⟩
theorem sz_none : Sz 0 0 .none := ⟨rfl, by simp [PyData.leavesShort], by simp [PyData.bulk], by simp [PyData.depth]⟩
theorem sz_bool (b : Bool) : Sz 0 0 (.bool b) := ⟨rfl, by simp [PyData.leavesShort], by simp [PyData.bulk], by simp [PyData.depth]⟩
theorem sz_intW {i : Int} (g : i.natAbs.log2 < 1920) : Sz 0 0 (.int i) := by
  refine ⟨by simp [PyData.showable, g], ?_, by simp [PyData.bulk], by simp [PyData.depth]⟩
  have e := int_text_length_le (by decide : 0 < 1920) g
  rw [← PySem.ofString_length] at e
  unfold PyData.leavesShort
  exact decide_eq_true (show (Str.ofString (toString i)).length ≤ 2000 from Nat.le_trans e (by decide))
theorem sz_int {i : Int} (h : i.natAbs < 2 ^ 250) : Sz 0 0 (.int i) := sz_intW (log2_small (Nat.lt_of_lt_of_le h (Nat.pow_le_pow_right (by decide) (by decide))))
theorem sh_int {i : Int} (h : PyData.showable (.int i) = true) : i.natAbs.log2 < 1920 := by simpa [PyData.showable] using h
theorem lt_log {n : Nat} (h : n.log2 < 1920) : n < 2 ^ 2000 := by
  by_cases h0 : n = 0
  · rw [h0]
    exact Nat.pow_pos (by decide)
  · exact Nat.lt_of_lt_of_le ((Nat.log2_lt h0).mp h) (Nat.pow_le_pow_right (by decide) (by decide))
theorem log_le {m n : Nat} (h : m ≤ n) (g : n.log2 < 1920) : m.log2 < 1920 := by
  by_cases h0 : m = 0
  · rw [h0]
    decide
  · have hn : n ≠ 0 := by omega
    exact (Nat.log2_lt h0).mpr (Nat.lt_of_le_of_lt h ((Nat.log2_lt hn).mp g))
theorem sz_str {x : Str} {n : Nat} (h : (x.cps.toList.all fun c => decide (c < 16 ^ 8)) = true) (hn : x.cps.size ≤ n) : Sz n 0 (.str x) :=
  ⟨by simp [PyData.showable], by simpa only [PyData.leavesShort] using h, by simpa only [PyData.bulk] using hn, by simp [PyData.depth]⟩
/-- all of a list -/
structure SzA (n m : Nat) (ds : List PyData) : Prop where
  sh : PyData.showableAll ds = true
  ls : PyData.leavesShortAll 2000 ds = true
  bk : PyData.bulkAll ds ≤ n
  dp : PyData.depthAll ds ≤ m
theorem sza_nil {m : Nat} : SzA 0 m [] := ⟨by simp [PyData.showableAll], by simp [PyData.leavesShortAll], by simp [PyData.bulkAll], by simp [PyData.depthAll]⟩
theorem sza_cons {n n' m : Nat} {d : PyData} {ds : List PyData} (a : Sz n m d) (b : SzA n' m ds) : SzA (n + 1 + n') m (d :: ds) :=
  ⟨by simp [PyData.showableAll, a.sh, b.sh], by simp [PyData.leavesShortAll, a.ls, b.ls], by have h1 := a.bk; have h2 := b.bk; simp only [PyData.bulkAll]; omega, by have h1 := a.dp; have h2 := b.dp; simp only [PyData.depthAll]; omega⟩
theorem SzA.mono {n m n' m' : Nat} {d : List PyData} (z : SzA n m d) (h1 : n ≤ n') (h2 : m ≤ m') : SzA n' m' d := ⟨z.sh, z.ls, Nat.le_trans z.bk h1, Nat.le_trans z.dp h2⟩
theorem sza_of {n m : Nat} : ∀ {ds : List PyData}, (∀ d ∈ ds, Sz n m d) → SzA ((n + 1) * ds.length) m ds
  | [], _ => sza_nil.mono (Nat.zero_le _) (Nat.le_refl _)
  | d :: ds, h => (sza_cons (h d List.mem_cons_self) (sza_of fun e he => h e (List.mem_cons_of_mem _ he))).mono (by rw [List.length_cons, Nat.mul_succ]; omega) (Nat.le_refl _)
theorem SzA.list {n m : Nat} {ds : List PyData} (a : SzA n m ds) : Sz n (m + 1) (.list ds) :=
  ⟨by simpa only [PyData.showable] using a.sh, by simpa only [PyData.leavesShort] using a.ls, by simpa only [PyData.bulk] using a.bk, by have := a.dp; simp only [PyData.depth]; omega⟩
theorem SzA.tuple {n m : Nat} {ds : List PyData} (a : SzA n m ds) : Sz n (m + 1) (.tuple ds) :=
  ⟨by simpa only [PyData.showable] using a.sh, by simpa only [PyData.leavesShort] using a.ls, by simpa only [PyData.bulk] using a.bk, by have := a.dp; simp only [PyData.depth]; omega⟩
theorem Sz.fits {d : PyData} (z : Sz 7000 50 d) : d.shown.length ≤ sizeLine := by
  have h := PyData.shown_le_bulk 2000 (by decide) d z.ls
  have b := z.bk
  have e : sizeLine = 16777216 := by decide
  omega
section
variable {X : Cx}
def rRepr : List V → Hp → VK → Prop := fun xs H Q => ∃ (v : V) (F : Addr → Prop) (d : PyData), xs = [v] ∧ Dd F H v d ∧ Sz 7000 50 d ∧ Q (.str d.shown) H
theorem cr_repr (hg : X.A.guards = some []) (hu : X.A.units + 64 < cLine) : CallR X (.builtin "repr") rRepr := by
  intro pins s σ H xs us Q I r h
  obtain ⟨v, F, d, rfl, hd, f, q⟩ := h
  obtain ⟨u, rfl, ru⟩ := Vals.one r
  refine call_repr_any (hd.rdd I ru) f.sh f.fits X.A _ s _ hg (by have := f.dp; omega) (fun _ _ e => e) fun h' t tk k => ?_
  exact ⟨.str d.shown, H, I.kept k, ⟨t, rfl⟩, q⟩
end
end Ey
/-! math.gcd of three -/
namespace Ey
open PySem PySem.Spec PyProof.Rows L2
open PySem.W in
theorem args_gcd3 (a b c : Value) : argsOk "math.gcd" ⟨[a, b, c], []⟩ := by unfold argsOk; kernel_rfl
open PySem.Calls in
theorem run_gcd3 (a b c : Int) (t u v : Tok) : Gives (Builtin.«math.gcd» ⟨[.int a t, .int b u, .int c v], []⟩) (.int ((((Nat.gcd 0 a.natAbs).gcd b.natAbs).gcd c.natAbs : Nat) : Int)) :=
  .of_wp fun M A E s Q h => by obtain ⟨hp, g, d, tk, os⟩ := s; wp_walk; exact ⟨_, rfl, h⟩
theorem vals_int3 {i j k : Int} {us : List Value} (r : Vals [V.int i, V.int j, V.int k] us) : ∃ t u v, us = [Value.int i t, Value.int j u, Value.int k v] := by
  cases r with
  | cons a r =>
    obtain ⟨t, rfl⟩ := a
    obtain ⟨u, v, rfl⟩ := Vals.int2 r
    exact ⟨t, u, v, rfl⟩
section
variable {X : Cx}
def rGcd3 : List V → Hp → VK → Prop := fun vs H Q => ∃ a b c : Int, vs = [.int a, .int b, .int c] ∧ Q (.int ((Nat.gcd (Nat.gcd a.natAbs b.natAbs) c.natAbs : Nat) : Int)) H
theorem cr_gcd3 : CallR X (.builtin "math.gcd") rGcd3 := by
  intro pins s σ H vs us Q I r h
  obtain ⟨a, b, c, rfl, q⟩ := h
  obtain ⟨t, u, v, rfl⟩ := vals_int3 r
  have g := run_gcd3 a b c t u v
  rw [Nat.gcd_zero_left] at g
  exact PySem.call_function_meets PySem.W.MGF.kind_gcd PySem.W.MGF.plain_gcd PySem.W.MGF.entry_gcd (args_gcd3 _ _ _) g.meets ⟨.int _, H, I.tok _, ⟨_, rfl⟩, q⟩
end
end Ey
/-! the end of a row whose law asks what runs around it (repr does) -/
namespace Ey
open PySem PySem.Spec PyProof.Rows L2
/-- fn_of, where it is called from A alone -/
theorem fn_at {CX : CXT} {P : Program} {w : World} {K : PySem.W.Frag} {mg : Str → Option Value} {base : Heap} {A : Around} {k : Nat} {f : Addr} {x qual : Str} {st : Stmt} {fd : FuncData} {N ps : List Str} (F : Fun K x qual st f fd) (S : FnScope N ps (defScope st)) (hr : Room (k + 1) A)
    {outer : List Env} {s : Shared} {H : Hp} {args : Args} {us : List Value} {vs : List V} {Q : VK} {E : XK} (hl : vs.length = ps.length) (e0 : Env0 P w K mg base A outer s H) (hb : BindsTo s fd args (ps.zip us)) (r : Vals vs us)
    (body : ∀ cdv : Value, ∃ t, PSs (cxOf CX P w K mg base N qual (defScope st) f cdv A outer s H E).nox (defBody st) t ∧ t { nx := fun _ H' => Q .non H', rt := Q } (start N vs) H) : codeAny (model P w) A (.call (.ref f) args) (CR CX outer P w H s Q E) s := by
  obtain ⟨oc, od, kV, doc, pm, an, cdv, ct, osl, rfl, lk, hcd⟩ := F.ex
  have hK : K.In s.heap := e0.mod.kin.keeps fun b o e => (e0.bs b o e).1
  have hlim : s.heap.NoLimit := e0.mod.nolimit.keeps fun b o e => (e0.bs b o e).1
  have hpar : ∀ y ∈ ps.zip us, (defScope st).names.lookup y.1 = some .local ∨ ((defScope st).names.lookup y.1 = some .cell ∧ ((cellsFrom (s.heap.objs.size + 1) (defScope st).names []).lookup y.1).isSome = true) := by
    rintro ⟨n, v⟩ hy
    rcases S.par n (List.of_mem_zip hy).1 with q | q
    · exact Or.inl q
    · exact Or.inr ⟨q, PySem.W.cellsFrom_some _ _ _ (Or.inl q)⟩
  refine codeAny_call_function hr.depth (hK _ _ lk) rfl S.co S.gen rfl (PySem.W.codeRec_of hK hcd) (hb _ _ _ _ ?_)
  refine wpAny_newFunctionEnv_cells S.kind hpar fun env he s1 y => ?_
  subst he
  refine ⟨hlim.keeps y.toInCall.keep, codeAny_func ?_⟩
  obtain ⟨t, ht, hq⟩ := body cdv
  have I := inv_start (CX := CX) (E := E) S hr.hd e0 hl r y
  refine wpAny_mono (ht.nox.run [] s1 (start N vs) H _ I hq) (fun fl s' hs => ?_) fun e s' hs => hs
  have done : ∀ {σ' : L2.St} {H' : Hp} {v : V} {u : Value}, Inv (cxOf CX P w K mg base N qual (defScope st) f cdv A outer s H E) [] σ' H' s' → RelV v u → Q v H' → CE outer P w H s Q u s' :=
    fun {σ' H' v u} J rv q => ⟨v, H', J.os, J.bare, J.base, J.hok, rv, q⟩
  cases fl with
  | ret u =>
    obtain ⟨v, σ', H', J, rv, q⟩ := hs
    exact done J rv q
  | next =>
    obtain ⟨σ', H', J, q⟩ := hs
    exact done (v := V.non) (u := Value.none) J rfl q
  | brk =>
    obtain ⟨_, _, _, q⟩ := hs
    exact q.elim
  | cont =>
    obtain ⟨_, _, _, q⟩ := hs
    exact q.elim

/-- what is to be shown of law: called as the row calls it, it answers True -/
def LawOk (P : Program) (w : World) (K : PySem.W.Frag) (mg : Str → Option Value) (base : Heap) (fa : Addr) : Prop :=
  ∀ (s : Shared) (H : Hp) (a : Addr) (ns : List Int), Env0 P w K mg base callerA [] s H → SqL K H a (ns.map V.int) → ns.length ≤ 63 →
    codeAny (model P w) callerA (.call (.ref fa) ⟨[.ref a], []⟩) (CR CX0 [] P w H s (fun v _ => v = .bl true) E0) s
theorem law_go {P : Program} {w : World} {K : PySem.W.Frag} {mg mb : Str → Option Value} {fa a : Addr} {s₁ : Shared} {vs : List Value} {ns : List Int}
    (KX : K.In s₁.heap) (hns : s₁.heap.Ns mainGlobals mg) (hb : s₁.heap.Ns builtinsNs mb) (hbb : ∀ x : Str, x ≠ "__name__" → mb x = bootBuiltins x) (hlim : s₁.heap.NoLimit) (hg : s₁.gens = #[])
    (ha : s₁.heap.get? a = some { cls := .type "list", data := .seq vs.toArray }) (hi : IntsAre vs ns) (hl : ns.length ≤ 63)
    (F : ∀ base : Heap, K.In base → base.Ns mainGlobals mg → LawOk P w K mg base fa) :
    codeAny (model P w) callerA (.call (.ref fa) ⟨[.ref a], []⟩) (fun r s' => r = .ok (.ret (.bool true)) ∧ OldK s₁.heap s'.heap ∧ s'.os = s₁.os ∧ AllBare s'.gens) s₁ := by
  have rv := vals_ints hi
  have lenV := hi.length
  have hsz : ns.length ≤ sizeLine := Nat.le_trans hl (by decide)
  have core : ∀ H : Hp, Only H → SqL K H a (ns.map V.int) → HOk P w H s₁.heap → (∀ b, H b ≠ none → b = a) → (H a ≠ none → K.lookup a = none) →
      codeAny (model P w) callerA (.call (.ref fa) ⟨[.ref a], []⟩) (fun r s' => r = .ok (.ret (.bool true)) ∧ OldK s₁.heap s'.heap ∧ s'.os = s₁.os ∧ AllBare s'.gens) s₁ := by
    intro H only hS hok only_a hKa
    have out : ∀ {b : Addr} {o : Obj} {es : Array DictEntry} {ep : Nat}, s₁.heap.get? b = some o → o.data = .dict es ep → H b = none := by
      intro b o es ep e d
      cases q : H b with
      | none => rfl
      | some u =>
        obtain rfl : b = a := only_a b (by rw [q]; exact fun z => nomatch z)
        rw [ha] at e
        cases e
        have z : Data.seq vs.toArray _ = Data.dict es ep := d
        cases z
    have ns_of : ∀ {b : Addr} {m : Str → Option Value}, s₁.heap.Ns b m → (hidT s₁.heap H).Ns b m := fun {b m} ⟨o, es, ep, e, d, r⟩ => ⟨o, es, ep, hidT_get e (out e d), d, r⟩
    have kin : K.In (hidT s₁.heap H) := by
      intro b o e
      refine hidT_get (KX b o e) ?_
      cases q : H b with
      | none => rfl
      | some u =>
        obtain rfl : b = a := only_a b (by rw [q]; exact fun z => nomatch z)
        rw [hKa (by rw [q]; exact fun z => nomatch z)] at e
        cases e
    have md : Mod K mg (hidT s₁.heap H) := ⟨kin, ns_of hns, ⟨mb, ns_of hb, hbb⟩, by obtain ⟨mc, z1, z2⟩ := hlim; exact ⟨mc, ns_of z1, z2⟩⟩
    have e0 : Env0 P w K mg (hidT s₁.heap H) callerA [] s₁ H :=
      ⟨rfl, md, fun b o e => of_hidT e, Nat.le_of_eq (hidT_size _ _), trivial, fun b hm => absurd (show b ∈ ([] : List Addr) from hm) (by simp), hok, .of_eq hg⟩
    refine codeAny_mono (F _ kin (ns_of hns) s₁ H a ns e0 hS hl) fun r s' h => ?_
    cases r with
    | error e => exact (show False from h).elim
    | ok fl =>
      cases fl with
      | next => exact (show False from h).elim
      | brk => exact (show False from h).elim
      | cont => exact (show False from h).elim
      | ret u =>
        obtain ⟨v, H', os, bare, un, hok', r', q⟩ := h
        obtain rfl : v = .bl true := q
        obtain rfl : u = Value.bool true := r'
        refine ⟨rfl, OldK.of_keep fun b o e => ?_, os, bare⟩
        cases q : H b with
        | none => exact un.keep b o e q (fun z => absurd (show b ∈ ([] : List Addr) from z) (by simp)) (by simp)
        | some u =>
          rcases only b with z | ⟨ob, xs, z⟩
          · rw [q] at z
            cases z
          · obtain ⟨e1, _⟩ := hok b _ z
            obtain ⟨e2, _⟩ := hok' b _ (un.frzs b ob _ z)
            rw [e] at e1
            cases e1
            exact e2
  cases hk : K.lookup a with
  | some o =>
    have e := KX a o hk
    rw [ha] at e
    cases e
    exact core (fun _ => none) (fun _ => Or.inl rfl) (Or.inr ⟨_, vs.toArray, _, hk, rfl, rfl, rfl, by rw [List.size_toArray, lenV]; exact hsz, by simpa using rv⟩)
      (fun b u z => by cases (show (none : Option HO) = some u from z)) (fun b z => absurd rfl z) fun z => absurd rfl z
  | none =>
    have at_a : (fun b => if b = a then some (HO.frz { cls := .type "list", data := .seq vs.toArray } (.lst (ns.map V.int))) else none : Hp) a = some (.frz { cls := .type "list", data := .seq vs.toArray } (.lst (ns.map V.int))) := if_pos rfl
    refine core (fun b => if b = a then some (.frz { cls := .type "list", data := .seq vs.toArray } (.lst (ns.map V.int))) else none) (fun b => ?_) (Or.inl (Or.inr ⟨_, at_a⟩)) (fun b u z => ?_) (fun b z => ?_) fun _ => hk
    · by_cases hb : b = a
      · exact Or.inr ⟨_, _, if_pos hb⟩
      · exact Or.inl (if_neg hb)
    · by_cases hb : b = a
      · subst hb
        cases (if_pos rfl).symm.trans z
        exact ⟨ha, by rw [List.length_map]; exact hsz, vs, _, rv, ha⟩
      · cases (if_neg hb).symm.trans z
    · exact Decidable.byContradiction fun hb => z (if_neg hb)
/-- walk_of, by LawOk -/
theorem walk_at {l : PySem.W.OpenLaw} {q : Program} {loose : List Str} {XP : (Str → Option Value) → Heap → Prop} {YP : World → Heap → Prop} {d : DefRec} {K : Params → PySem.W.Frag}
    (hn : l.most = some 63) (hdf : d.params.defaults = []) (hY : ∀ (w : World) (h : Heap), YP w h → (K w.params).In h)
    (F : ∀ (w : World) (mg : Str → Option Value) (fa : Addr) (h : Heap), (K w.params).In h → h.Ns mainGlobals mg → mg d.name = some (.ref fa) → ∀ base : Heap, (K w.params).In base → base.Ns mainGlobals mg → LawOk l.prog w (K w.params) mg base fa) :
    PySem.W.WalkO q loose XP YP l.row.toRowW d [] (fun f vs => PySem.call f vs) := by
  refine Att.attach_call hn hdf fun w s₀ s₁ mg mb fa o pm cd doc a vs ns G Y ho hd hcd hmg hobj hints hlen hg => ?_
  have KX := hY w _ Y
  exact law_go KX G.T.g G.T.b G.T.builtins G.T.nolimit hg hobj hints hlen (F w mg fa _ KX G.T.g hmg)
end Ey
/-! errors of the program: super().__init__(text), then one field -/
namespace Ey
open PySem PySem.W PySem.Calls PyProof.Rows PySem.HandSPX Builtin Builtin.ObjectAttr
def erA (fld : Str) (p1 p2 : Pos) : Arguments :=
  { posonlyargs := [], args := [{ arg := "self", annotation := none, pos := p1 }, { arg := fld, annotation := none, pos := p2 }], vararg := none, kwonlyargs := [], kw_defaults := [], kwarg := none, defaults := [] }
def erB (msg fld : Str) (j : Nat) (q0 q1 q2 q3 q4 q5 q6 q7 q8 q9 : Pos) : List Stmt :=
  [.Expr (.Call (.Attribute (.Call (.Name "super" q0) [] [] q1) "__init__" q2) [.Constant (.str msg) j q3] [] q4) q5, .Assign [.Attribute (.Name "self" q6) fld q7] (.Name fld q8) q9]
def erS (fld : Str) : Scope :=
  { kind := .function, names := [(PySem.Str.ofString "self", .local), (fld, .local), (PySem.Str.ofString "__class__", .free), (PySem.Str.ofString "super", .globalImplicit)], isGenerator := false, isCoroutine := false, more := [] }
/-- what the written part says of the error's class at C, over the one at B -/
structure ErrTxt (P : Program) (K : Frag) (mg : Str → Option Value) (x fld : Str) (C B fI : Addr) : Prop where
  gC : mg x = some (.ref C)
  cls : ∃ nm q N bs sn sub ab col dd k0 k1 k2 k3 k5, K.lookup C = some (excClassObj nm q C N bs (.ref B :: ESX.exTail) true sn sub ab col dd k0 k1 k2 k3 k5 "Exception.__new__")
  su : alongIn K "__init__" (.ref B :: ESX.exTail) = some (some (.builtin "Exception.__init__"))
  sa : findIn K (.ref C) "__setattr__" = some (some (.builtin "object.__setattr__"))
  ga : findIn K (.ref C) "__getattribute__" = some (some (.builtin "BaseException.__getattribute__"))
  gg : findIn K (.ref C) "__getattr__" = some none
  noN : findIn K (.ref C) fld = some none
  iC : findIn K (.ref C) "__init__" = some (some (.ref fI))
  tC : typeIn K (.ref fI) = some (.type "function")
  kC : keepIn K (.ref C) = true
  exC : subIn K (.ref C) (.type "BaseException") = some true
  exE : subIn K (.ref C) (.type "Exception") = some true
  tyC : typeIn K (.ref C) = some (.type "type")
  hdC : hasDictIn K C = true
  fs : (("self" : Str) == fld) = false
  fsu : (("super" : Str) == fld) = false
  fcl : (("__class__" : Str) == fld) = false
  fdb : (fld == ("__debug__" : Str)) = false
  nsup : mg "super" = none
  top : (P.main.scope.names.lookup ("super" : Str)).isSome = false
  opq : nsIn K cStatics "thirdparty.any" = some none
  fn : ∃ (qual msg : Str) (j : Nat) (oc : Value) (od : Option Addr) (doc pm : Value) (an : Option Addr) (ct : Value) (osl : Array (Option Value)) (cda cc : Addr) (p1 p2 q0 q1 q2 q3 q4 q5 q6 q7 q8 q9 : Pos),
    K.lookup fI = some ⟨oc, od, .func (ksFn "__init__" qual (erA fld p1 p2) (erB msg fld j q0 q1 q2 q3 q4 q5 q6 q7 q8 q9) (erS fld) .none .none doc pm an (.ref cda) ct cc), osl⟩ ∧ codeIn K (.ref cda) qual = true ∧
    (∀ (s : Shared) (a b : Value), BindsTo s (ksFn "__init__" qual (erA fld p1 p2) (erB msg fld j q0 q1 q2 q3 q4 q5 q6 q7 q8 q9) (erS fld) .none .none doc pm an (.ref cda) ct cc) ⟨[a, b], []⟩ [("self", a), (fld, b)]) ∧
    (∃ cl cld csl, K.lookup cc = some ⟨cl, cld, .cell (some (.ref C)), csl⟩) ∧
    (∃ ccl cdd vs ccs file tf, K.lookup cda = some ⟨ccl, cdd, .fields vs, ccs⟩ ∧ vs[2]? = some (.str file tf) ∧ ((P.main.file : Str) == file) = true) ∧
    (∀ L : Addr, ∃ pl : Sem Bool, eval (.Call (.Attribute (.Call (.Name "super" q0) [] [] q1) "__init__" q2) [.Constant (.str msg) j q3] [] q4) (ksEnv qual (erS fld) L fI (.ref cda) cc) = (do
      let o ← attributeBase (.Call (.Name "super" q0) [] [] q1) "__init__" (ksEnv qual (erS fld) L fI (.ref cda) cc) (eval (.Call (.Name "super" q0) [] [] q1) (ksEnv qual (erS fld) L fI (.ref cda) cc))
      standAt q2.atName
      let (u, us) ← holding [o] (getMethod o "__init__" pl)
      callWith q4 u us (backTo q4 (starEach [.Constant (.str msg) j q3] (ksEnv qual (erS fld) L fI (.ref cda) cc))) []))
/-- what a made error leaves at x -/
structure ErrIni (h h' : Heap) (x C dx t1 : Addr) (fld : Str) (v : Value) : Prop where
  keep : ∀ b o, b ≠ x → h.get? b = some o → h'.get? b = some o
  obj : h'.get? x = some (excObj C t1 (some dx) .none)
  dbig : h.objs.size ≤ dx
  dne : dx ≠ x
  ns : h'.Ns1 dx (fun y => if y = fld then some v else none)
section
variable {prog : Program} {w : World} {A : Around} {E : Value → Shared → Prop} {R : Result → Shared → Prop} {s : Shared} {K : Frag} {mg : Str → Option Value} {xn fld : Str} {C B fI : Addr}
theorem er_set (T : ErrTxt prog K mg xn fld C B fI) {hp : Heap} {g : Array GenState} {d : Drawn} {t : Nat} {os : OsState} {x t1 : Addr} {v : Value} {Q : Unit → Shared → Prop} (X : K.In hp) (hx : hp.get? x = some (excObj C t1 none .none))
    (hq : ∀ h' tk dx, ErrIni hp h' x C dx t1 fld v → Q () ⟨h', g, d, tk, os⟩) : wpAny (model prog w) A (setAttr (.ref x) fld v) Q E ⟨hp, g, d, t, os⟩ := by
  obtain ⟨nm, q, N, bs, sn, sub, ab, col, dd, k0, k1, k2, k3, k5, hC⟩ := T.cls
  have hcl : clsIn K C = some { name := nm, bases := bs, mro := .ref C :: .ref B :: ESX.exTail, ns := N, qualname := q, hasDict := true, slotNames := sn, subclasses := sub, abstract := ab, collection := col, hasDel := false } := by unfold clsIn; rw [hC] <;> rfl
  have ov : excOver K C [.type "Exception", .type "BaseException", .type "object"] = true := by
    unfold excOver
    rw [hcl]
    simp [Option.any, excTail]
  have tk : takerIn K C fld = some none := by
    unfold takerIn
    rw [T.noN] <;> rfl
  have hxs : x ≠ hp.objs.size := Nat.ne_of_lt (Heap.lt_size hx)
  have I : ∀ t', InstAt (⟨hp, g, d, t', os⟩ : Shared).heap x (excObj C t1 none .none) C none := fun _ => ⟨hx, rfl, rfl, trivial⟩
  refine set_plain (od := none) X (I t) T.sa (osa_openX (s := ⟨hp, g, d, t + 1, os⟩) (od := none) PySem.F.store_Exception X (I (t + 1)) ov tk fun b => ?_)
  refine wpAny_bind (wpAny_pure (wpAny_bind (instanceDict_exc hx (looks_clsIn X hcl) rfl ?_)))
  show wpAny _ _ (storeInDict _ (.str fld t) fld v) _ _ _
  refine store_in_new ?_ fun h' tk' hn hs => ?_
  · exact ⟨_, #[], _, (Heap.get?_update_ne _ _ _ _ hxs.symm).trans (Heap.get?_push_at rfl rfl), rfl, fun e he => absurd he (by simp), fun _ => rfl⟩
  · have hx2 : (hp.push (dictOf [] 0)).get? x = some (excObj C t1 none .none) := Heap.get?_push_of_some _ hx
    refine hq h' tk' hp.objs.size ⟨fun b o hb ho => ?_, ?_, Nat.le_refl _, hxs.symm, hn⟩
    · exact (hs.2 b (Nat.ne_of_lt (Heap.lt_size ho))).trans ((Heap.get?_update_ne _ _ _ _ hb).trans (Heap.get?_push_of_some _ ho))
    · exact (hs.2 x hxs).trans (Heap.get?_update_self _ hx2 rfl)
theorem er_init (T : ErrTxt prog K mg xn fld C B fI) {x t0 : Addr} {v : Value} {mb : Str → Option Value} (X : K.In s.heap) (hlim : s.heap.NoLimit) (hg : s.heap.Ns mainGlobals mg) (hb : s.heap.Ns builtinsNs mb) (hbb : mb "super" = some (.type "super"))
    (hx : s.heap.get? x = some (excO C t0)) (hnx : K.lookup x = none) (hroom : A.depth < recursionLimit)
    (hq : ∀ h' tk dx t1, ErrIni s.heap h' x C dx t1 fld v → R (.ok (.ret .none)) { s with heap := h', toks := tk }) : codeAny (model prog w) A (.call (.ref fI) ⟨[.ref x, v], []⟩) R s := by
  obtain ⟨qual, msg, j, oc, od, doc, pm, an, ct, osl, cda, cc, p1, p2, q0, q1, q2, q3, q4, q5, q6, q7, q8, q9, ho, hcd, hbi, ⟨cl, cld, csl, hcell⟩, ⟨ccl, cdd, vs, ccs, file, tf, hcode, hvs, hfile⟩, hev⟩ := T.fn
  obtain ⟨nm, q, N, bs, sn, sub, ab, col, dd, k0, k1, k2, k3, k5, hC⟩ := T.cls
  have hcl : clsIn K C = some { name := nm, bases := bs, mro := .ref C :: .ref B :: ESX.exTail, ns := N, qualname := q, hasDict := true, slotNames := sn, subclasses := sub, abstract := ab, collection := col, hasDel := false } := by unfold clsIn; rw [hC] <;> rfl
  have hm1 : mroIn K C (.ref C) = some true := by
    unfold mroIn
    rw [hcl]
    simp
  have lf : (erS fld).names.lookup fld = some .local := by
    have e : (erS fld).names.lookup fld = match fld == ("self" : Str) with | true => some .local | false => some .local := by
      show List.lookup fld [(PySem.Str.ofString "self", NameKind.local), (fld, .local), (PySem.Str.ofString "__class__", .free), (PySem.Str.ofString "super", .globalImplicit)] = _
      simp [List.lookup] <;> rfl
    rw [e]
    split <;> rfl
  refine ks_codeAny_call_defAt (fd := ksFn "__init__" qual (erA fld p1 p2) (erB msg fld j q0 q1 q2 q3 q4 q5 q6 q7 q8 q9) (erS fld) .none .none doc pm an (.ref cda) ct cc) (body := erB msg fld j q0 q1 q2 q3 q4 q5 q6 q7 q8 q9) (binds := [("self", .ref x), (fld, v)])
    hroom (X _ _ ho) rfl hlim (codeRec_of X hcd) rfl (hbi _ _ _) (fun y hy => ?_) (fun y hy => ?_) (fun h1 hn1 hk1 => ?_)
  · rcases List.mem_cons.mp hy with rfl | hy
    · exact fun z => by cases z
    · rcases List.mem_cons.mp hy with rfl | hy
      · exact fun z => by cases z
      · rcases List.mem_cons.mp hy with rfl | hy
        · exact fun z => by cases z
        · rcases List.mem_cons.mp hy with rfl | hy
          · exact fun z => by cases z
          · cases hy
  · rcases List.mem_cons.mp hy with rfl | hy
    · rfl
    · rcases List.mem_cons.mp hy with rfl | hy
      · exact lf
      · cases hy
  · have X1 : K.In h1 := X.keeps hk1
    have hx1 := hk1 _ _ hx
    have hC1 : h1.get? C = some (excClassObj nm q C N bs (.ref B :: ESX.exTail) true sn sub ab col dd k0 k1 k2 k3 k5 "Exception.__new__") := X1 _ _ hC
    have bself : (fun y => List.lookup y (List.reverse [(("self" : Str), Value.ref x), (fld, v)])) "self" = some (Value.ref x) := by
      have e := T.fs
      simp [List.lookup, e]
    have bfld : (fun y => List.lookup y (List.reverse [(("self" : Str), Value.ref x), (fld, v)])) fld = some v := by
      simp [List.lookup]
    generalize hmN : (fun y => List.lookup y (List.reverse [(("self" : Str), Value.ref x), (fld, v)])) = mN at hn1 bself bfld
    have hgl : h1.Ns mainGlobals mg := hg.keeps hk1
    have hbl : h1.Ns builtinsNs mb := hb.keeps hk1
    show _root_.PySem.wpAt (model prog w) (A.deeper (ksEnv qual (erS fld) s.heap.objs.size fI (.ref cda) cc)) (.func (erB msg fld j q0 q1 q2 q3 q4 q5 q6 q7 q8 q9) (ksEnv qual (erS fld) s.heap.objs.size fI (.ref cda) cc)) (execs (erB msg fld j q0 q1 q2 q3 q4 q5 q6 q7 q8 q9) (ksEnv qual (erS fld) s.heap.objs.size fI (.ref cda) cc)) _ _ _
    obtain ⟨pl, hev⟩ := hev s.heap.objs.size
    have kS : (ksEnv qual (erS fld) s.heap.objs.size fI (.ref cda) cc).kindOf "super" = some .globalImplicit := by
      have e := T.fsu
      show List.lookup ("super" : Str) [(PySem.Str.ofString "self", NameKind.local), (fld, .local), (PySem.Str.ofString "__class__", .free), (PySem.Str.ofString "super", .globalImplicit)] = _
      rw [List.lookup_cons, List.lookup_cons, e]
      rfl
    have kC : (ksEnv qual (erS fld) s.heap.objs.size fI (.ref cda) cc).kindOf "__class__" = some .free := by
      have e := T.fcl
      show List.lookup ("__class__" : Str) [(PySem.Str.ofString "self", NameKind.local), (fld, .local), (PySem.Str.ofString "__class__", .free), (PySem.Str.ofString "super", .globalImplicit)] = _
      rw [List.lookup_cons, List.lookup_cons, e]
      rfl
    obtain ⟨hp, g, dr, tk, os⟩ := s
    refine ks_wpAt_execs_cons (ks_wpAt_Expr_any (ks_wpAt_MethodCall (pl := pl) ?_ hev))
    refine ks_wpAt_super_base (env := ksEnv qual (erS fld) hp.objs.size fI (.ref cda) cc) kS kC rfl rfl (X1 _ _ ho) rfl rfl rfl (X1 _ _ hcode) rfl hvs hfile T.top ?_
    refine ks_loadName_global rfl kS (loadGlobal_builtin (env := ksEnv qual (erS fld) hp.objs.size fI (.ref cda) cc) hgl T.nsup hbl hbb ⟨rfl, ?_⟩)
    refine wpAny_loadName_free rfl kC rfl ⟨_, X1 _ _ hcell, rfl⟩ ?_
    refine wpAny_loadName_local rfl (rfl : (ksEnv qual (erS fld) hp.objs.size fI (.ref cda) cc).kindOf "self" = some .local) hn1 bself ?_
    refine ks_wpAny_isType_cls hC1 rfl ⟨rfl, ?_⟩
    refine ks_wpAny_call_super hC1 rfl hx1 rfl (fun c e => by cases e) (looks_mroIn X1 hm1) (fun h2 e2 kk2 => ?_)
    have X2 : K.In h2 := X1.keeps kk2
    have hx2 := kk2 _ _ hx1
    have I2 : InstAt h2 x (excO C t0) C none := ⟨hx2, rfl, rfl, trivial⟩
    have hxC : x ≠ C := fun z => by
      rw [z] at hx1
      rw [hx1] at hC1
      cases hC1
    refine ESX.getMethod_super (l₀ := .ref C :: .ref B :: ESX.exTail) e2 (looks_opaque X2 T.opq) ?_ (ESX.drop_own C _) X2 T.su hxC rfl (I2.type.andThen (looks_subIn X2 T.exE)) ?_
    · exact (looks_clsIn X2 hcl).andThen .now
    refine ESX.callWith_bound (x := x) (spliced_more (wpAny_Constant_str (spliced_none ⟨Heap.get?_push_at rfl rfl, ?_⟩)))
    have k3 : ∀ b o, h2.get? b = some o → (h2.push (ESX.bw x)).get? b = some o := fun b o e => Heap.get?_push_of_some _ e
    refine ESX.call_bw (t0 := t0) (k3 _ _ (kk2 _ _ hC1)) (k3 _ _ hx2) (Heap.get?_push_at rfl rfl) (by show 1 ≤ sizeLine; rw [sizeLine_eq]; decide) fun h4 t1 k4 hx4 => ?_
    -- self.fld = fld
    have X3 : K.In (h2.push (ESX.bw x)) := X2.keeps k3
    have ne : ∀ {b : Addr} {o : Obj}, hp.get? b = some o → b ≠ x → h4.get? b = some o := fun {b o} e n => k4 b o n (k3 _ _ (kk2 _ _ (hk1 _ _ e)))
    have nL : hp.objs.size ≠ x := Nat.ne_of_gt (Heap.lt_size hx)
    have X4 : K.In h4 := fun b o e => ne (X b o e) fun z => by
      rw [z, hnx] at e
      cases e
    have hn4 : h4.Ns hp.objs.size mN := by
      obtain ⟨oL, es, ep, eL, rL⟩ := hn1
      exact ⟨oL, es, ep, k4 _ _ nL (k3 _ _ (kk2 _ _ eL)), rL⟩
    refine ks_wpAt_execs_cons (ks_wpAt_Assign_Attr ?_)
    refine wpAt_of_wpAny (ESX.ldL hn4 bfld ?_ rfl lf T.fdb)
    refine ESX.ldL hn4 bself ?_ rfl rfl
    refine er_set (xn := xn) (B := B) (fI := fI) T X4 hx4 fun h5 tk5 dx I5 => ?_
    refine wpAt_of_wpAny (wpAny_execs_nil ?_)
    have big : hp.objs.size ≤ dx := by
      obtain ⟨oL, es, ep, eL, rL⟩ := hn4
      exact Nat.le_trans (Nat.le_of_lt (Heap.lt_size eL)) I5.dbig
    exact hq h5 tk5 dx t1 ⟨fun b o n e => I5.keep b o n (ne e n), I5.obj, big, I5.dne, I5.ns⟩
/-- a made error -/
structure ErrMade (h h' : Heap) (e C d : Addr) (fld : Str) (v : Value) : Prop where
  keep : ∀ b o, h.get? b = some o → h'.get? b = some o
  new : h.objs.size ≤ e
  obj : ∃ oe vs, h'.get? e = some oe ∧ oe.cls = .ref C ∧ oe.dict = some d ∧ oe.data = .fields vs ∧ vs[1]? = some .none
  dbig : h.objs.size ≤ d
  dne : d ≠ e
  ns : h'.Ns1 d (fun y => if y = fld then some v else none)
theorem er_made (T : ErrTxt prog K mg xn fld C B fI) {v : Value} {mb : Str → Option Value} (X : K.In s.heap) (hlim : s.heap.NoLimit) (hg : s.heap.Ns mainGlobals mg) (hb : s.heap.Ns builtinsNs mb) (hbb : mb "super" = some (.type "super")) (hroom : A.depth + 1 < recursionLimit)
    (hq : ∀ h' tk e d, ErrMade s.heap h' e C d fld v → R (.ok (.ret (.ref e))) { s with heap := h', toks := tk }) :
    codeAny (model prog w) A (.call (.ref C) ⟨[v], []⟩) R s := by
  obtain ⟨nm, q, N, bs, sn, sub, ab, col, dd, k0, k1, k2, k3, k5, hC⟩ := T.cls
  obtain ⟨hp, g, dr, tk, os⟩ := s
  have k : ∀ b o, hp.get? b = some o → ((hp.push (kdv_tup [v])).push (excO C hp.objs.size)).get? b = some o := fun b o e => Heap.get?_push_of_some _ (Heap.get?_push_of_some _ e)
  have hget : ((hp.push (kdv_tup [v])).push (excO C hp.objs.size)).get? (hp.objs.size + 1) = some (excO C hp.objs.size) := by heap_get
  have hnx : K.lookup (hp.objs.size + 1) = none := by
    cases e : K.lookup (hp.objs.size + 1) with
    | none => rfl
    | some o =>
      have z : hp.get? (hp.objs.size + 1) = some o := X _ _ e
      exact absurd (Nat.lt_of_succ_lt (Heap.lt_size z)) (Nat.lt_irrefl _)
  refine call_own PySem.F.excBase_Exception (fun Y => by rw [List.contains_cons]; rfl) (X _ _ hC) (looks_findIn X T.iC) (fun self => bind_fn X self T.tC) (by show 1 ≤ sizeLine; rw [sizeLine_eq]; decide) ?_
  refine er_init (s := ⟨(hp.push (kdv_tup [v])).push (excO C hp.objs.size), g, dr, tk, os⟩) T (X.keeps k) (hlim.keeps k) (hg.keeps k) (hb.keeps k) hbb hget hnx ?_ fun h' tk' dx t1 I => ?_
  · show A.depth + 1 < recursionLimit
    exact hroom
  · have old : ∀ b o, hp.get? b = some o → h'.get? b = some o := fun b o e => I.keep b o (Nat.ne_of_lt (Nat.lt_succ_of_lt (Heap.lt_size e))) (k b o e)
    have z : hp.objs.size + 1 + 1 ≤ dx := by
      have q := I.dbig
      first
        | exact q
        | (rw [Heap.size_push, Heap.size_push] at q; exact q)
    exact ⟨rfl, hq h' tk' (hp.objs.size + 1) dx ⟨old, Nat.le_succ _, ⟨_, _, I.obj, rfl, rfl, rfl, rfl⟩, Nat.le_trans (Nat.le_trans (Nat.le_succ _) (Nat.le_succ _)) z, I.dne, I.ns⟩⟩
end
end Ey
namespace Ey
open PySem PySem.Spec PyProof.Rows L2
theorem relO_fld {fld : Str} {v : V} {v' : Value} (r : RelV v v') (f : Str) : RelO (List.lookup f [(fld, v)]) (if f = fld then some v' else none) := by
  by_cases hw : f = fld
  · subst hw
    rw [if_pos rfl]
    have q : List.lookup f [(f, v)] = some v := by simp [List.lookup]
    rw [q]
    exact r
  · rw [if_neg hw]
    have qw : (f == fld) = false := by simpa using hw
    have q2 : List.lookup f [(fld, v)] = none := by simp [List.lookup, qw]
    rw [q2]
    trivial
section
variable {X : Cx} {xn fld : Str} {C B fI : Addr}
/-- Error(e) -/
def tMkEr (C : Addr) (fld : Str) (ta : TA) : L2.St → Hp → XK → Prop := fun σ H Q => ta σ H fun vs H1 => ∃ v, vs = [v] ∧ ∀ d, H1 d = none → Q (.ref C) (some d) (upd H1 d (.xd [(fld, v)]))
theorem pmk_er {a : Expr} {ta : TA} {p pos : Pos} {k : Nat} (T : ErrTxt X.prog X.K X.mg xn fld C B fI) (hr : Room k X.A) (ha : PA X [a] ta) (hg : Gl X xn) (hdb : (xn == ("__debug__" : Str)) = false := by decide)
    (he : starEach (a :: []) X.env = (false, eval a X.env) :: starEach [] X.env := by rfl) (hpl : (backTo pos (starEach [] X.env)).any (·.1) = false := by rfl) :
    PMk X (.Call (.Name xn p) [a] [] pos) (tMkEr C fld ta) := by
  intro pins s σ H Q I h
  refine wpAny_Call_Name_kw (ld_glob I hg T.gC ?_ hdb)
  refine PySem.W.callWith_K (h₀ := X.base) I.ok.mod.kin T.kC (thn (ha.run pos pins s σ H _ I h) fun us s1 hh => ?_) he hpl
  obtain ⟨vs, H1, I1, r1, v, ev, q1⟩ := hh
  subst ev
  refine ⟨I1.kIn, ?_⟩
  cases r1 with
  | cons rv rn =>
    rename_i v' us'
    cases rn
    show wpAny _ _ (call (.ref C) [v']) _ _ _
    have hlim := I1.nolimit
    obtain ⟨mb, b1, b2⟩ := I1.mod.blt
    have gG := I1.mod.glob.keeps I1.bk
    have gB := b1.keeps I1.bk
    have gS : mb "super" = some (.type "super") := (b2 "super" (by decide)).trans (by first | rfl | kernel_rfl)
    obtain ⟨hp, g, dr, tk, os⟩ := s1
    refine wpAny_call (er_made T I1.kIn hlim gG gB gS (by have := hr.dp; omega) fun h' tk' e d M => ?_)
    show MkP X pins σ Q (.ref e) ⟨h', g, dr, tk', os⟩
    obtain ⟨oe, fv, hoe, hc, hd, hdat, h1⟩ := M.obj
    have hns := M.ns
    obtain ⟨G', g1, g2⟩ := restrict h' fun b => decide (b ≠ e)
    have gk : ∀ b, b ≠ e → G'.get? b = h'.get? b := fun b hb => g1 b (decide_eq_true hb)
    have ge : G'.get? e = none := g2 e (by simp)
    have old : ∀ b o, hp.get? b = some o → G'.get? b = some o := fun b o q => (gk b (Nat.ne_of_lt (Nat.lt_of_lt_of_le (Heap.lt_size q) M.new))).trans (M.keep b o q)
    have ob : ObjOk X.prog X.w (upd H1 d (.xd [(fld, v)])) G' d (.xd [(fld, v)]) :=
      ⟨_, hns.at (fun o q => (gk d M.dne).trans q), fun f => relO_fld rv f⟩
    have J : Inv X pins σ (upd H1 d (.xd [(fld, v)])) ⟨G', g, dr, tk', os⟩ := I1.laid (t' := tk') old M.dbig ob
    refine ⟨e, oe, fv, ⟨G', g, dr, tk', os⟩, _, .ref C, some d, rfl, J, fun b o q => ?_, ge, hoe, ⟨hc, hd⟩, hdat, h1, ?_, rfl, I1.bare, raises_own T.exC T.tyC, q1 d (I1.hok.fresh M.dbig)⟩
    · by_cases hb : b = e
      · have q' : G'.get? b = some o := q
        rw [hb, ge] at q'; cases q'
      · exact (gk b hb).symm.trans q
    · rw [upd_ne (Ne.symm M.dne)]
      exact I1.hok.fresh M.new
/-- raise Error(e) -/
def tRaiseEr (C : Addr) (fld : Str) (W : WX) (ta : TA) : TS := fun _ σ H => tMkEr C fld ta σ H fun cls d H' => W cls d σ H'
theorem ps_raiseEr {a : Expr} {ta : TA} {W : WX} {p pos pos2 : Pos} {k : Nat} (hc : X.calm = true) (T : ErrTxt X.prog X.K X.mg xn fld C B fI) (hr : Room k X.A) (tk : Takes X W) (ha : PA X [a] ta) (hg : Gl X xn) (hdb : (xn == ("__debug__" : Str)) = false := by decide)
    (he : starEach (a :: []) X.env = (false, eval a X.env) :: starEach [] X.env := by rfl) (hpl : (backTo pos (starEach [] X.env)).any (·.1) = false := by rfl) :
    PS X (.Raise (some (.Call (.Name xn p) [a] [] pos)) none pos2) (tRaiseEr C fld W ta) := ps_raise hc tk (pmk_er T hr ha hg hdb he hpl)
/-- e.fld, e the error that the suite holds (at a; its class cls, its dict d) -/
def tByEr (C : Addr) (fld : Str) (a : Addr) (cls : Value) (d : Option Addr) (te : TE) : TE := fun σ H Q => te σ H fun x H1 => x = .ref a ∧ cls = .ref C ∧ ∃ (dd : Addr) (v : V), d = some dd ∧ H1 dd = some (.xd [(fld, v)]) ∧ Q v H1
/-- the error stands there, with its dict -/
theorem er_inst {a dd : Addr} {v : V} {oe : Obj} {pn pins : List (Addr × Obj)} {σ : L2.St} {H : Hp} {s : Shared} (I : L2.Inv (X.suite a ((a, oe) :: pn)) pins σ H s) (hz : Zc (.ref C) (some dd) oe) (hf : ∃ vs, oe.data = .fields vs) (ea : H dd = some (.xd [(fld, v)])) :
    ∃ (od : Obj) (u : Value), PySem.W.InstAt s.heap a oe C (some od) ∧ PySem.W.lookIn fld od = some (some u) ∧ RelV v u := by
  obtain ⟨ha, _⟩ := I.pin (a, oe) (List.mem_append_left _ List.mem_cons_self)
  obtain ⟨vs, hd⟩ := hf
  have hx : ObjOk X.prog X.w H s.heap dd (.xd [(fld, v)]) := I.hok dd _ ea
  obtain ⟨mA, hns, hr⟩ := hx
  obtain ⟨od, ho, hl⟩ := lookIn_ns hns
  have l : List.lookup fld [(fld, v)] = some v := by simp [List.lookup]
  obtain ⟨u, hu, ru⟩ := RelO.some_of (v := v) (o := mA fld) (by rw [← l]; exact hr fld)
  exact ⟨od, u, ⟨ha, hz.1, by unfold PySem.W.notCls; rw [hd] <;> rfl, by rw [hz.2]; exact ho⟩, by rw [hl, hu], ru⟩
theorem pe_byEr {a : Addr} {oe : Obj} {cls : Value} {d : Option Addr} {pn : List (Addr × Obj)} {e : Expr} {te : TE} {pos : Pos} (T : ErrTxt X.prog X.K X.mg xn fld C B fI) (hz : Zc cls d oe) (hf : ∃ vs, oe.data = .fields vs) (he : PE (X.suite a ((a, oe) :: pn)) e te)
    (hb : attributeBase e fld X.env (eval e X.env) = eval e X.env := by rfl) :
    PE (X.suite a ((a, oe) :: pn)) (.Attribute e fld pos) (tByEr C fld a cls d te) := by
  refine ⟨fun pins s σ H Q I h => ?_⟩
  refine attr_of hb (thn (he.run pins s σ H _ I h) fun u s1 hh => ?_)
  obtain ⟨x, H1, I1, rx, ex, ec, dd, v, ed, ea, q⟩ := hh
  subst ex
  obtain rfl : u = Value.ref a := rx
  subst ec
  subst ed
  obtain ⟨od, u, J, hl, ru⟩ := er_inst I1 hz hf ea
  exact HandSPX.exc_get I1.kIn J T.ga T.gg T.exC (PySem.W.findObj_own T.hdC T.noN rfl hl) (handed_of ru) ⟨v, H1, I1.tok _, ru, q⟩
/-- isinstance(e, D), e the error that the suite holds -/
def rIsEr (K : PySem.W.Frag) (C a : Addr) (fld : Str) (cls : Value) (d : Option Addr) : List V → Hp → VK → Prop := fun xs H Q => ∃ (c : V) (cv : Value) (b : Bool) (dd : Addr) (v : V), xs = [.ref a, c] ∧ cls = .ref C ∧ d = some dd ∧ H dd = some (.xd [(fld, v)]) ∧ (∀ u, RelV c u → u = cv) ∧ PySem.W.kitOne K (.ref C) cv = some b ∧ Q (.bl b) H
theorem call_isEr {a : Addr} {oe : Obj} {cls : Value} {d : Option Addr} {pn : List (Addr × Obj)} (D : ExcC X.K C) (hz : Zc cls d oe) (hf : ∃ vs, oe.data = .fields vs) : CallR (X.suite a ((a, oe) :: pn)) (.builtin "isinstance") (rIsEr X.K C a fld cls d) := by
  intro pins s σ H xs us Q I r h
  obtain ⟨c, cv, b, dd, v, rfl, rfl, rfl, ea, hcv, e, q⟩ := h
  cases r with
  | cons rx rr =>
    cases rr with
    | cons rt rr =>
      cases rr
      cases rx
      have ec := hcv _ rt
      subst ec
      obtain ⟨od, u, J, _, _⟩ := er_inst I hz hf ea
      obtain ⟨cd, hcd, _⟩ := PySem.W.any_some D.hd
      exact PySem.W.kia_one (PySem.W.kitx_exc (by rw [hcd] <;> rfl) D.hg D.hk D.hs D.ha D.hn D.ht D.hm) I.kIn J e (fun z => nomatch z) fun tk => ⟨.bl b, H, I.kept (t' := tk) fun _ _ z => z, rfl, q⟩
end
end Ey
namespace Ey
open PySem PySem.Spec PyProof.Rows L2
/-! ### the text -/
def topS (i : Nat) : Stmt := PySem.Challenge.pw_eyeorder_k02_places_by_coordinates.main.body.getD i (.Pass ⟨0, 0, 0, 0⟩)
abbrev sDeck : Stmt := topS 12
abbrev sDraw : Stmt := topS 13
abbrev sPick : Stmt := topS 14
theorem scDeck : FnScope ["script", "seed", "mixed", "cell"] ["script", "seed"] (defScope sDeck) := ⟨rfl, rfl, rfl, by decide +kernel, rfl, by decide +kernel, by decide +kernel⟩
theorem scDraw : FnScope ["deck", "many", "cell", "figure"] ["deck", "many"] (defScope sDraw) := ⟨rfl, rfl, rfl, by decide +kernel, rfl, by decide +kernel, by decide +kernel⟩
theorem scPick : FnScope ["deck", "some"] ["deck", "some"] (defScope sPick) := ⟨rfl, rfl, rfl, by decide +kernel, rfl, by decide +kernel, by decide +kernel⟩

/-! ### the deck -/
abbrev dkv (l : Addr) (m k : Int) : List (Key × V) := [(.inr ("left" : Str), .ref l), (.inr ("mixed" : Str), .int m), (.inr ("draws" : Str), .int k)]
theorem nLM : ¬ (Sum.inr ("left" : Str) : Key) = Sum.inr ("mixed" : Str) := by decide +kernel
theorem nLD : ¬ (Sum.inr ("left" : Str) : Key) = Sum.inr ("draws" : Str) := by decide +kernel
theorem nMD : ¬ (Sum.inr ("mixed" : Str) : Key) = Sum.inr ("draws" : Str) := by decide +kernel
theorem dkv_left {l : Addr} {m k : Int} : valV (dkv l m k) (.inr ("left" : Str)) = some (.ref l) := valV_pos rfl
theorem dkv_mixed {l : Addr} {m k : Int} : valV (dkv l m k) (.inr ("mixed" : Str)) = some (.int m) := (valV_neg nLM).trans (valV_pos rfl)
theorem dkv_draws {l : Addr} {m k : Int} : valV (dkv l m k) (.inr ("draws" : Str)) = some (.int k) := (valV_neg nLD).trans ((valV_neg nMD).trans (valV_pos rfl))
theorem dkv_putM {l : Addr} {m k n : Int} : putK (dkv l m k) (.inr ("mixed" : Str)) (.int n) = dkv l n k := by
  unfold putK
  have e1 := nLM
  have e3 : ¬ (Sum.inr ("draws" : Str) : Key) = Sum.inr ("mixed" : Str) := fun z => nMD z.symm
  simp only [dkv, List.any_cons, List.map_cons, List.map_nil, if_neg e1, if_neg e3, if_pos]
  simp
theorem dkv_putD {l : Addr} {m k n : Int} : putK (dkv l m k) (.inr ("draws" : Str)) (.int n) = dkv l m n := by
  unfold putK
  have e1 := nLD
  have e3 := nMD
  simp only [dkv, List.any_cons, List.map_cons, List.map_nil, if_neg e1, if_neg e3, if_pos]
  simp
/-- the deck stands at d, its list at l -/
structure Deck (d l : Addr) (H : Hp) : Prop where
  ex : ∃ (ns : List Int) (m k : Int), ns.length ≤ 63 ∧ H d = some (.dK (dkv l m k)) ∧ H l = some (.lst (ns.map V.int))
/-- all but the deck is as it was -/
def Kp (d l : Addr) (H H' : Hp) : Prop := ∀ a o, H a = some o → a ≠ d → a ≠ l → H' a = some o
theorem Kp.refl {d l : Addr} (H : Hp) : Kp d l H H := fun _ _ e _ _ => e
theorem Kp.trans {d l : Addr} {H H1 H2 : Hp} (a : Kp d l H H1) (b : Kp d l H1 H2) : Kp d l H H2 := fun x o e n1 n2 => b x o (a x o e n1 n2) n1 n2
theorem Kp.of {d l : Addr} {H H1 : Hp} (a : Evl.Ex H H1) : Kp d l H H1 := fun x o e _ _ => a x o e
theorem Kp.new {d l : Addr} {H H1 : Hp} {p : Addr} {o : HO} (a : Kp d l H H1) (n : H1 p = none) : Kp d l H (upd H1 p o) := fun x u e n1 n2 => by
  rw [upd_ne (ne_of_none (a x u e n1 n2) n)]
  exact a x u e n1 n2
theorem Kp.d {d l : Addr} {H H1 : Hp} {o : HO} (a : Kp d l H H1) : Kp d l H (upd H1 d o) := fun x u e n1 n2 => by
  rw [upd_ne n1]
  exact a x u e n1 n2
theorem Kp.l {d l : Addr} {H H1 : Hp} {o : HO} (a : Kp d l H H1) : Kp d l H (upd H1 l o) := fun x u e n1 n2 => by
  rw [upd_ne n2]
  exact a x u e n1 n2
theorem Deck.new {d l : Addr} {H : Hp} {p : Addr} {o : HO} (D : Deck d l H) (n : H p = none) : Deck d l (upd H p o) := by
  obtain ⟨ns, m, k, h, e1, e2⟩ := D.ex
  exact ⟨ns, m, k, h, by rw [upd_ne (ne_of_none e1 n)]; exact e1, by rw [upd_ne (ne_of_none e2 n)]; exact e2⟩
theorem Deck.ex' {d l : Addr} {H H1 : Hp} (D : Deck d l H) (a : Evl.Ex H H1) : Deck d l H1 := by
  obtain ⟨ns, m, k, h, e1, e2⟩ := D.ex
  exact ⟨ns, m, k, h, a _ _ e1, a _ _ e2⟩

theorem g_left {d l : Addr} {m k : Int} {H : Hp} (e : H d = some (.dK (dkv l m k))) : DGet H d (.str ("left" : Str)) (some (.ref l)) := by
  have g := DGet.k (k := Sum.inr ("left" : Str)) e
  rw [dkv_left] at g
  exact g
theorem g_mixed {d l : Addr} {m k : Int} {H : Hp} (e : H d = some (.dK (dkv l m k))) : DGet H d (.str ("mixed" : Str)) (some (.int m)) := by
  have g := DGet.k (k := Sum.inr ("mixed" : Str)) e
  rw [dkv_mixed] at g
  exact g
theorem g_draws {d l : Addr} {m k : Int} {H : Hp} (e : H d = some (.dK (dkv l m k))) : DGet H d (.str ("draws" : Str)) (some (.int k)) := by
  have g := DGet.k (k := Sum.inr ("draws" : Str)) e
  rw [dkv_draws] at g
  exact g
theorem p_mixed {d l : Addr} {m k n : Int} {H : Hp} (e : H d = some (.dK (dkv l m k))) : DPut H d (.str ("mixed" : Str)) (.int n) (upd H d (.dK (dkv l n k))) := by
  have g := DPut.k (k := Sum.inr ("mixed" : Str)) (v := .int n) e (by show 3 < sizeLine; decide)
  rw [dkv_putM] at g
  exact g
theorem p_draws {d l : Addr} {m k n : Int} {H : Hp} (e : H d = some (.dK (dkv l m k))) : DPut H d (.str ("draws" : Str)) (.int n) (upd H d (.dK (dkv l m n))) := by
  have g := DPut.k (k := Sum.inr ("draws" : Str)) (v := .int n) e (by show 3 < sizeLine; decide)
  rw [dkv_putD] at g
  exact g
/-! ### lists of ints as data -/
theorem dp_ints {K : PySem.W.Frag} {H : Hp} : ∀ ns : List Int, DpAll K H (ns.map V.int) (ns.map PyData.int)
  | [] => .nil
  | n :: r => .cons (.int n) (dp_ints r)
theorem lay_ints : ∀ ns : List Int, PyData.canLayAll0 (ns.map PyData.int) = true
  | [] => by simp [PyData.canLayAll0]
  | n :: r => by simp [PyData.canLayAll0, PyData.canLay0, lay_ints r]
theorem dep_ints : ∀ ns : List Int, PyData.depthAll (ns.map PyData.int) = 0
  | [] => by simp [PyData.depthAll]
  | n :: r => by simp [PyData.depthAll, PyData.depth, dep_ints r]
theorem shaped_ints (ns : List Int) : SeqAt.shaped (.list (ns.map PyData.int)) = true := by
  unfold SeqAt.shaped
  simp [PyData.canLay0, PyData.depth, lay_ints, dep_ints]
theorem dv {j : Int} (h : (0 : Int) < j) : (0 : Int) < j := h
theorem lt18 {j : Int} (h : j ≤ 1000000) : j < 10 ^ 18 := Int.lt_of_le_of_lt h (by decide)
theorem nil_or_last : ∀ ns : List Int, ns = [] ∨ ∃ r x, ns = r ++ [x]
  | [] => .inl rfl
  | n :: r => by
    rcases nil_or_last r with e | ⟨q, x, e⟩
    · exact .inr ⟨[], n, by rw [e]; rfl⟩
    · exact .inr ⟨n :: q, x, by rw [e]; rfl⟩
theorem eqv_nil (ns : List Int) : PyData.eqv (.list (ns.map PyData.int)) (.list []) = ns.isEmpty := by
  cases ns <;> simp [PyData.eqv, PyData.eqvAll]
section
variable {P : Program} {w : World} {K : PySem.W.Frag} {mg : Str → Option Value} {base : Heap}
/-- what the top's names say of the language's own -/
structure Blt (mg : Str → Option Value) : Prop where
  int : mg "int" = none
  max : mg "max" = none
  len : mg "len" = none
  list : mg "list" = none
  range : mg "range" = none
  tuple : mg "tuple" = none
  isinst : mg "isinstance" = none
  bool : mg "bool" = none
  abs : mg "abs" = none
  repr : mg "repr" = none
  str : mg "str" = none
  all : mg "all" = none

def spDraw : Sp := fun vs H Q _ => ∃ (d l : Addr) (many : Int), vs = [.ref d, .int many] ∧ 0 < many ∧ many < 10 ^ 18 ∧ Deck d l H ∧ ∀ r H', 0 ≤ r → r < many → Deck d l H' → Kp d l H H' → Q (.int r) H'
theorem ok_draw {f : Addr} {fd : FuncData} {k : Nat} (F : Fun K "_law_draw" "_law_draw" sDraw f fd) (T : Blt mg) : FnOk P w K mg base CX0 (k + 1) f fd ["deck", "many"] spDraw := by
  refine F.ok scDraw (fun vs H Q E h => ?_) (fun cdv A outer s H vs Q E hr h => ?_)
  · obtain ⟨d, l, m, rfl, _⟩ := h
    rfl
  · obtain ⟨d, l, many, rfl, h0, h1, D, q⟩ := h
    have hu := hu_of hr
    have gt {e : Expr} {i : Nat} {tb tc : TE} : True := trivial
    refine ⟨_, pss_cons (ps_dput hu (pv 0) pe_str (pe_op op_add (pe_dget hu (pv 0) pe_str (fun _ _ => rfl)) pe_int) rfl)
      (Evl.pss_cut (ps_if (pt_cmpR (op_neD hr.units) (pe_dget hu (pv 0) pe_str (fun _ _ => rfl)) (pe_lst pa_nil) (nomark _))
        (pss_cons (ps_set (i := 2) scDraw.nd rfl (.inl rfl) (pe_bm0 PySem.F.plainAttrs_list PySem.F.slot_list_pop PySem.F.type_list_pop mt_pop (pe_dget hu (pv 0) pe_str (fun _ _ => rfl))))
        (pss_cons (ps_if (pt_cmpR op_ge (pv 2) (pe_op op_pow pe_int pe_int) (nomark _))
          (pss_cons (ps_expr (pe_bm PySem.F.plainAttrs_list PySem.F.slot_list_append PySem.F.type_list_append mt_append (pe_dget hu (pv 0) pe_str (fun _ _ => rfl))
            (pa_cons (pe_op op_fdivW (pv 2) (pe_callB (call_max2 rfl) (by rfl) T.max (by decide +kernel) (pa_cons pe_int (pa_cons (pv 1) pa_nil)))) pa_nil)))
          (pss_one (ps_ret (pe_op op_mod (pe_callTy call_int1 (by rfl) T.int (by decide +kernel) (pa_cons (pv 2) pa_nil)) (pv 1)))))
          pss_nil)
        (pss_one (ps_dput hu (pv 0) pe_str (pe_op op_mod (pe_callTy call_int1 (by rfl) T.int (by decide +kernel) (pa_cons
          (pe_op op_add (pe_op op_add (pe_op op_mul (pe_dget hu (pv 0) pe_str (fun _ _ => rfl)) pe_int) (pe_op op_mod (pe_callTy call_int1 (by rfl) T.int (by decide +kernel) (pa_cons (pv 2) pa_nil)) pe_int)) pe_int) pa_nil)) pe_int) rfl))))
        pss_nil)
      (pss_cons (ps_set (i := 3) scDraw.nd rfl (.inl rfl) (pe_op op_mod (pe_callTy call_int1 (by rfl) T.int (by decide +kernel) (pa_cons
          (pe_op op_add (pe_dget hu (pv 0) pe_str (fun _ _ => rfl)) (pe_op op_mul pe_int (pe_dget hu (pv 0) pe_str (fun _ _ => rfl)))) pa_nil)) pe_int))
      (pss_cons (ps_set (i := 3) scDraw.nd rfl (.inl rfl) (pe_op op_mod (pe_callTy call_int1 (by rfl) T.int (by decide +kernel) (pa_cons
          (pe_op op_add (pe_op op_add (pe_op op_mul (pv 3) (pv 3)) (pe_op op_mul pe_int (pe_dget hu (pv 0) pe_str (fun _ _ => rfl)))) pe_int) pa_nil)) pe_int))
      (pss_cons (ps_set (i := 3) scDraw.nd rfl (.inl rfl) (pe_op op_mod (pe_callTy call_int1 (by rfl) T.int (by decide +kernel) (pa_cons
          (pe_op op_add (pe_op op_mul (pv 3) pe_int) pe_int) pa_nil)) pe_int))
      (pss_one (ps_ret (pe_op op_mod (pe_callTy call_int1 (by rfl) T.int (by decide +kernel) (pa_cons (pe_op op_fdiv (pv 3) pe_int) pa_nil)) (pv 1)))))))), ?_⟩
    obtain ⟨ns, m, k, hl, e1, e2⟩ := D.ex
    have nld : l ≠ d := ne_of e2 e1 (by intro z; cases z)
    -- deck['draws'] = ..
    refine ⟨.ref d, rfl, d, .int k, rfl, g_draws e1, k, 1, rfl, rfl, .ref d, rfl, d, _, rfl, p_draws e1, ?_⟩
    have a1 : Kp d l H (upd H d (.dK (dkv l m (k + 1)))) := (Kp.refl H).d
    have b1 : (upd H d (.dK (dkv l m (k + 1)))) d = some (.dK (dkv l m (k + 1))) := upd_same
    have b2 : (upd H d (.dK (dkv l m (k + 1)))) l = some (.lst (ns.map V.int)) := by rw [upd_ne nld]; exact e2
    generalize upd H d (.dK (dkv l m (k + 1))) = H1 at a1 b1 b2
    refine ⟨fun σ' H' => ∃ c, σ' = [some (.ref d), some (.int many), c, none] ∧ Deck d l H' ∧ Kp d l H H', ?_, ?_⟩
    · -- if deck['left'] != []
      refine ⟨.ref d, rfl, d, .ref l, rfl, g_left b1, Nat.zero_le _, fun p np => ⟨_, _, Dp.lst (SqL.of (by rw [upd_ne (ne_of_none b2 np)]; exact b2)) (dp_ints ns), Dp.lst (SqL.of upd_same) .nil, shaped_ints ns, shaped_ints [], _, rfl, ?_⟩⟩
      have a2 := a1.new (o := .lst []) np
      have c1 : (upd H1 p (.lst [])) d = some (.dK (dkv l m (k + 1))) := by rw [upd_ne (ne_of_none b1 np)]; exact b1
      have c2 : (upd H1 p (.lst [])) l = some (.lst (ns.map V.int)) := by rw [upd_ne (ne_of_none b2 np)]; exact b2
      generalize upd H1 p (.lst []) = H2 at a2 c1 c2
      rw [eqv_nil]
      rcases nil_or_last ns with rfl | ⟨r, x, rfl⟩
      · exact iteF ⟨none, rfl, ⟨[], m, k + 1, hl, c1, c2⟩, a2⟩
      have hr1 : r.length ≤ 62 := by
        rw [List.length_append] at hl
        exact Nat.le_of_succ_le_succ hl
      rw [show (!(r ++ [x]).isEmpty) = true by cases r <;> rfl]
      refine iteT ?_
      -- cell = deck['left'].pop()
      have em : (r ++ [x]).map V.int = r.map V.int ++ [.int x] := by rw [List.map_append] <;> rfl
      rw [em] at c2
      refine ⟨.ref d, rfl, d, .ref l, rfl, g_left c1, .inl ⟨rfl, _, SqL.of c2⟩, l, _, .int x, rfl, rfl, c2, ?_, ?_⟩
      · rw [List.length_append, List.length_singleton, Nat.add_sub_cancel, List.getElem?_append_right (Nat.le_refl _), Nat.sub_self] <;> rfl
      rw [List.dropLast_concat]
      have a3 := a2.l (o := .lst (r.map V.int))
      have d1 : (upd H2 l (.lst (r.map V.int))) d = some (.dK (dkv l m (k + 1))) := by rw [upd_ne nld.symm]; exact c1
      have d2 : (upd H2 l (.lst (r.map V.int))) l = some (.lst (r.map V.int)) := upd_same
      generalize upd H2 l (.lst (r.map V.int)) = H3 at a3 d1 d2
      -- if cell >= 10 ** 18
      refine ⟨.int x, rfl, 10, 18, rfl, rfl, ⟨by decide, by decide, by decide⟩, x, _, rfl, rfl, _, rfl, ite2 (fun hx => ?_) (fun hx => ?_)⟩
      · have hmx : (0 : Int) < (if many > 2 then many else 2) := by split <;> omega
        have hmb : (if many > 2 then many else 2 : Int).natAbs < 2 ^ 60 := by
          have : (10 : Int) ^ 18 = 1000000000000000000 := by decide
          split <;> omega
        refine ⟨.ref d, rfl, d, .ref l, rfl, g_left d1, .inl ⟨rfl, _, SqL.of d2⟩, .int x, rfl, .int many, rfl, 2, many, rfl, x, _, rfl, rfl, wide_div hmx hmb (by decide) (by decide), l, _, _, rfl, rfl, d2, ?_, ?_⟩
        · rw [List.length_map]
          exact small1000 (by omega)
        · refine ⟨.int x, rfl, .inl ⟨x, rfl, .int many, rfl, x, many, rfl, rfl, h0, ?_⟩⟩
          refine q _ _ (Int.emod_nonneg _ (by omega)) (Int.emod_lt_of_pos _ h0) ⟨r ++ [x / (if many > 2 then many else 2)], m, k + 1, ?_, ?_, ?_⟩ a3.l
          · rw [List.length_append]
            exact Nat.succ_le_succ hr1
          · rw [upd_ne nld.symm]
            exact d1
          · rw [upd_same, List.map_append] <;> rfl
      · -- deck['mixed'] = ..
        refine ⟨.ref d, rfl, d, .int m, rfl, g_mixed d1, m, 39373, rfl, rfl, .inr (by decide), .int x, rfl, .inl ⟨x, rfl, x, 2147483629, rfl, rfl, dv (by decide), _, _, rfl, rfl, _, _, rfl, rfl, .inl ⟨_, rfl, _, _, rfl, rfl, dv (by decide), .ref d, rfl, d, _, rfl, p_mixed d1, ?_⟩⟩⟩
        exact ⟨_, rfl, ⟨r, _, k + 1, by omega, upd_same, by rw [upd_ne nld]; exact d2⟩, a3.d⟩
    · rintro σ' H' ⟨c, rfl, D2, a2⟩
      obtain ⟨ns2, m2, k2, hl2, c1, c2⟩ := D2.ex
      -- the figures
      refine ⟨.ref d, rfl, d, .int m2, rfl, g_mixed c1, .ref d, rfl, d, .int k2, rfl, g_draws c1, _, _, rfl, rfl, .inl (by decide), _, _, rfl, rfl, .inl ⟨_, rfl, _, _, rfl, rfl, dv (by decide), ?_⟩⟩
      refine ⟨_, rfl, _, rfl, _, _, rfl, rfl, .inl ⟨by show -(2 ^ 64 : Int) < (m2 + 31337 * k2) % 2147483647; omega, by show (m2 + 31337 * k2) % 2147483647 < (2 ^ 64 : Int); omega⟩, .ref d, rfl, d, .int k2, rfl, g_draws c1, _, _, rfl, rfl, .inl (by decide), _, _, rfl, rfl, _, _, rfl, rfl, .inl ⟨_, rfl, _, _, rfl, rfl, dv (by decide), ?_⟩⟩
      refine ⟨_, rfl, _, _, rfl, rfl, .inr (by decide), _, _, rfl, rfl, .inl ⟨_, rfl, _, _, rfl, rfl, dv (by decide), ?_⟩⟩
      refine ⟨_, rfl, _, _, rfl, rfl, ⟨by decide, by decide⟩, .inl ⟨_, rfl, .int many, rfl, _, many, rfl, rfl, h0, ?_⟩⟩
      exact q _ _ (Int.emod_nonneg _ (by omega)) (Int.emod_lt_of_pos _ h0) ⟨ns2, m2, k2, hl2, c1, c2⟩ a2

/-- a def of the text, called by its name: its promise at a level -/
structure Fk (P : Program) (w : World) (K : PySem.W.Frag) (mg : Str → Option Value) (base : Heap) (CX : CXT) (k : Nat) (x : Str) (ps : List Str) (sp : Sp) : Prop where
  ex : ∃ (f : Addr) (fd : FuncData), FnOk P w K mg base CX k f fd ps sp ∧ Binds K fd ps [] ∧ mg x = some (.ref f) ∧ PySem.W.keepIn K (.ref f) = true ∧ ∃ oc od osl, K.lookup f = some ⟨oc, od, .func fd, osl⟩
theorem fun_lk {x qual : Str} {st : Stmt} {f : Addr} {fd : FuncData} (F : Fun K x qual st f fd) : ∃ oc od osl, K.lookup f = some ⟨oc, od, .func fd, osl⟩ := by
  obtain ⟨oc, od, kV, doc, pm, an, cdv, ct, osl, e, lk, _⟩ := F.ex
  exact ⟨oc, od, osl, lk⟩
/-- where a def stands -/
structure At (K : PySem.W.Frag) (mg : Str → Option Value) (x : Str) (st : Stmt) : Prop where
  ex : ∃ (f : Addr) (fd : FuncData), Fun K x x st f fd ∧ mg x = some (.ref f)
theorem Fk.mono {CX : CXT} {j k : Nat} {x : Str} {ps : List Str} {sp : Sp} (F : Fk P w K mg base CX j x ps sp) (h : j ≤ k) : Fk P w K mg base CX k x ps sp := by
  obtain ⟨f, fd, a, b, c, d⟩ := F.ex
  exact ⟨f, fd, a.mono h, b, c, d⟩
theorem Fk.weak {CX : CXT} {k : Nat} {x : Str} {ps : List Str} {sp sp' : Sp} (F : Fk P w K mg base CX k x ps sp) (h : ∀ vs H Q E, sp' vs H Q E → sp vs H Q E) : Fk P w K mg base CX k x ps sp' := by
  obtain ⟨f, fd, a, b, c, d⟩ := F.ex
  exact ⟨f, fd, ⟨fun vs H Q E z => a.len vs H Q E (h vs H Q E z), fun A outer s H args us vs Q E r e b v z => a.run A outer s H args us vs Q E r e b v (h vs H Q E z)⟩, b, c, d⟩
theorem pe_cl {X : Cx} {CX : CXT} {k : Nat} {x : Str} {ps : List Str} {sp : Sp} {E : XK} {p pos : Pos} {e : Expr} {es : List Expr} {t : TA} (G : Fk X.prog X.w X.K X.mg X.base CX k x ps sp) (hr : Room k X.A) (hg : Gl X x) (hx : Passes CX X E) (ha : PA X (e :: es) t)
    (hdb : (x == ("__debug__" : Str)) = false := by decide) (he : starEach (e :: es) X.env = (false, eval e X.env) :: starEach es X.env := by rfl) (hpl : (backTo pos (starEach es X.env)).any (·.1) = false := by rfl) :
    PE X (.Call (.Name x p) (e :: es) [] pos) (tCall sp [] E t) := by
  obtain ⟨f, fd, a, b, c, d⟩ := G.ex
  exact pe_call a hr hg c d.1 b .nil hx ha hdb he hpl
/-- how x(k = v, ..) binds: keywords ks alone, in the order that o tells -/
def KwOf (K : PySem.W.Frag) (x : Str) (st : Stmt) (ps ks : List Str) (o : List Nat) : Prop :=
  ∀ (f : Addr) (fd : FuncData), Fun K x x st f fd → ∀ (s : Shared) (ws : List Value), K.In s.heap → ws.length = ks.length → BindsTo s fd ⟨[], ks.zip ws⟩ (ps.zip (o.map fun i => ws.getD i .none))
theorem vals_perm {zs : List V} {ws : List Value} (r : Vals zs ws) : ∀ o : List Nat, (∀ i ∈ o, i < zs.length) → Vals (o.map fun i => zs.getD i .non) (o.map fun i => ws.getD i .none)
  | [], _ => .nil
  | i :: o, h => by
    have hi := h i List.mem_cons_self
    obtain ⟨u, hu, ru⟩ := r.get (List.getElem?_eq_getElem hi)
    refine .cons ?_ (vals_perm r o fun j hj => h j (List.mem_cons_of_mem _ hj))
    show RelV (zs.getD i .non) (ws.getD i .none)
    rw [List.getD_eq_getElem?_getD, List.getD_eq_getElem?_getD, hu, List.getElem?_eq_getElem hi]
    exact ru
def tCallKw (n : Nat) (o : List Nat) (sp : Sp) (E : XK) (tk : TA) : TE := fun σ H Q => tk σ H fun zs H1 => zs.length = n ∧ sp (o.map fun i => zs.getD i .non) H1 Q E
theorem pe_clk {X : Cx} {CX : CXT} {k : Nat} {x : Str} {st : Stmt} {ps ks : List Str} {o : List Nat} {sp : Sp} {E : XK} {p pos : Pos} {kws : List Keyword} {tk : TA} (G : Fk X.prog X.w X.K X.mg X.base CX k x ps sp) (S : At X.K X.mg x st) (B : KwOf X.K x st ps ks o) (ho : ∀ i ∈ o, i < ks.length)
    (hr : Room k X.A) (hg : Gl X x) (hx : Passes CX X E) (hkw : PK X kws tk)
    (hall : (backToKw pos (keywordEach kws X.env)).all (·.1.isSome) = true := by rfl) (hks : (backToKw pos (keywordEach kws X.env)).filterMap (·.1) = ks := by rfl) (hdb : (x == ("__debug__" : Str)) = false := by decide)
    (hpl : ((backTo pos (starEach [] X.env)).any (·.1) || (backToKw pos (keywordEach kws X.env)).any (·.1.isNone)) = false := by rfl) :
    PE X (.Call (.Name x p) [] kws pos) (tCallKw ks.length o sp E tk) := by
  obtain ⟨f, fd, a, _, c, d, oc, od, osl, lk⟩ := G.ex
  obtain ⟨f2, fd2, F2, c2⟩ := S.ex
  rw [c] at c2
  cases c2
  obtain ⟨oc2, od2, osl2, lk2⟩ := fun_lk F2
  rw [lk] at lk2
  cases lk2
  refine ⟨fun pins s σ H Q I h => ?_⟩
  refine wpAny_Call_Name_kw (ld_glob I hg c ?_ hdb)
  refine PySem.W.callWith_KW0 (h₀ := X.base) I.ok.mod.kin d hall ?_ hpl
  refine thn (hkw.run pos pins s σ H _ I h) fun ws s2 ⟨zs, H2, I2, rz, hl, q2⟩ => ⟨I2.kIn, ?_⟩
  rw [hks]
  have hl2 : ws.length = ks.length := rz.length.symm.trans hl
  have r2 := vals_perm rz o fun i hi => by rw [hl]; exact ho i hi
  refine wpAny_call (codeAny_mono (a.run X.A X.stack s2 H2 ⟨[], ks.zip ws⟩ _ _ Q E hr I2.env0 (B f fd F2 s2 ws I2.kIn hl2) r2 q2) fun r s' hq => ?_)
  cases r with
  | error e => exact hx pins σ H2 s2 e s' I2 hq
  | ok fl =>
    cases fl with
    | ret u => exact I2.after hq
    | next => exact False.elim hq
    | brk => exact False.elim hq
    | cont => exact False.elim hq
theorem fk_draw (S : At K mg "_law_draw" sDraw) (T : Blt mg) : Fk P w K mg base CX0 1 "_law_draw" ["deck", "many"] spDraw := by
  obtain ⟨f, fd, F, g⟩ := S.ex
  exact ⟨f, fd, ok_draw F T, F.binds fun _ _ _ _ _ _ us hl => (match us, hl with | [_, _], _ => rfl), g, F.kp, fun_lk F⟩

/-! ### one of a list -/
def spPick : Sp := fun vs H Q _ => ∃ (d l a : Addr) (xs : List V), vs = [.ref d, .ref a] ∧ Deck d l H ∧ H a = some (.lst xs) ∧ a ≠ d ∧ a ≠ l ∧ 0 < xs.length ∧ xs.length ≤ 1000 ∧
  ∀ (i : Nat) (v : V) (H' : Hp), xs[i]? = some v → Deck d l H' → Kp d l H H' → Q v H'
theorem fk_pick (S : At K mg "_law_pick" sPick) (T : Blt mg) (G : Fk P w K mg base CX0 1 "_law_draw" ["deck", "many"] spDraw) : Fk P w K mg base CX0 2 "_law_pick" ["deck", "some"] spPick := by
  obtain ⟨f, fd, F, g⟩ := S.ex
  refine ⟨f, fd, F.ok scPick (fun vs H Q E h => ?_) (fun cdv A outer s H vs Q E hr h => ?_), F.binds fun _ _ _ _ _ _ us hl => (match us, hl with | [_, _], _ => rfl), g, F.kp, fun_lk F⟩
  · obtain ⟨d, l, a, xs, rfl, _⟩ := h
    rfl
  · obtain ⟨d, l, a, xs, rfl, D, ea, nd, nl, h0, h1, q⟩ := h
    refine ⟨_, pss_one (ps_ret (pe_ix ix_list (pv 1) (pe_cl G hr (by rfl) pass0 (pa_cons (pv 0) (pa_cons (pe_callB call_len_seq (by rfl) T.len PySem.boot_len (pa_cons (pv 1) pa_nil)) pa_nil))) (fun _ _ => rfl))), ?_⟩
    refine ⟨_, rfl, _, rfl, _, rfl, a, xs, rfl, .inl (SqL.of ea), d, l, _, rfl, by omega, lt18 (by omega), D, fun r H' r0 r1 D' k => ?_⟩
    have hr : r.toNat < xs.length := by omega
    refine ⟨a, xs, r, xs[r.toNat], rfl, rfl, SqL.of (k _ _ ea nd nl), at_of (j := r.toNat) (by omega) (List.getElem?_eq_getElem hr), q _ _ H' (List.getElem?_eq_getElem hr) D' k⟩

/-! ### the deck is made -/
theorem cut_ints (ns : List Int) (lo hi : Option Int) : ∃ ms : List Int, cutV (ns.map V.int) lo hi = ms.map V.int ∧ ms.length ≤ ns.length := by
  refine ⟨(ns.drop (HT.sIx ns.length 0 lo)).take (HT.sIx ns.length ns.length hi - HT.sIx ns.length 0 lo), ?_, ?_⟩
  · unfold cutV
    rw [List.length_map, List.map_take, List.map_drop]
  · rw [List.length_take, List.length_drop]
    omega
def spDeck (K : PySem.W.Frag) : Sp := fun vs H Q _ => ∃ (a : Addr) (ns : List Int) (seed : Int), vs = [.ref a, .int seed] ∧ SqL K H a (ns.map V.int) ∧ ns.length ≤ 63 ∧
  ∀ d l H', Deck d l H' → Evl.Ex H H' → H d = none → H l = none → Q (.ref d) H'
theorem merge_deck {l : Addr} {m k : Int} : mergeK [] (dkv l m k) = dkv l m k := by
  have n1 : valV [((Sum.inr ("left" : Str) : Key), V.ref l)] (.inr ("mixed" : Str)) = none := (valV_neg nLM).trans valV_nil
  have n2 : valV [((Sum.inr ("left" : Str) : Key), V.ref l), (.inr ("mixed" : Str), .int m)] (.inr ("draws" : Str)) = none := (valV_neg nLD).trans ((valV_neg nMD).trans valV_nil)
  show putK (putK (putK [] (Sum.inr ("left" : Str) : Key) (V.ref l)) (Sum.inr ("mixed" : Str)) (V.int m)) (Sum.inr ("draws" : Str)) (V.int k) = _
  rw [show putK ([] : List (Key × V)) (Sum.inr ("left" : Str)) (V.ref l) = [((Sum.inr ("left" : Str) : Key), V.ref l)] from rfl, putK_new _ n1]
  show putK [((Sum.inr ("left" : Str) : Key), V.ref l), ((Sum.inr ("mixed" : Str) : Key), V.int m)] (Sum.inr ("draws" : Str)) (V.int k) = _
  rw [putK_new _ n2] <;> rfl
theorem fk_deck (S : At K mg "_law_deck" sDeck) (T : Blt mg) : Fk P w K mg base CX0 1 "_law_deck" ["script", "seed"] (spDeck K) := by
  obtain ⟨f, fd, F, g⟩ := S.ex
  refine ⟨f, fd, F.ok scDeck (fun vs H Q E h => ?_) (fun cdv A outer s H vs Q E hr h => ?_), F.binds fun _ _ _ _ _ _ us hl => (match us, hl with | [_, _], _ => rfl), g, F.kp, fun_lk F⟩
  · obtain ⟨a, ns, m, rfl, _⟩ := h
    rfl
  · obtain ⟨a, ns, m, rfl, ea, h1, q⟩ := h
    refine ⟨_, pss_cons (ps_set (i := 2) scDeck.nd rfl (.inl rfl) (pv 1))
      (pss_cons (ps_for PassesOwn.never rfl (pi_list (pe_slice sl_list (pv 0) po_none (po_some pe_int))) (pg_name (i := 3) scDeck.nd rfl (.inl rfl))
        (pss_one (ps_set (i := 2) scDeck.nd rfl (.inl rfl) (pe_op op_mod (pe_callTy call_int1 (by rfl) T.int (by decide +kernel) (pa_cons
          (pe_op op_add (pe_op op_add (pe_op op_mul (pv 2) pe_int) (pe_op op_mod (pe_callTy call_int1 (by rfl) T.int (by decide +kernel) (pa_cons (pv 3) pa_nil)) pe_int)) pe_int) pa_nil)) pe_int))))
      (pss_one (ps_ret (pe_disp (pps_cons pe_str (pe_revL (pe_callTy call_list_of (by rfl) T.list (by decide +kernel) (pa_cons (pe_slice sl_list (pv 0) po_none (po_some pe_int)) pa_nil)))
        (pps_cons pe_str (pv 2) (pps_cons pe_str pe_int pps_nil))) (by rfl) (by rfl) (fun z => by cases z) (by decide))))), ?_⟩
    refine ⟨_, rfl, ?_⟩
    -- for cell in script[:63]
    obtain ⟨ms, em, hm⟩ := cut_ints ns none (some 63)
    refine ⟨_, rfl, 63, rfl, a, _, rfl, ea, fun p np => ?_⟩
    rw [em]
    have x1 : Evl.Ex H (upd H p (.lst (ms.map V.int))) := Evl.Ex.new np
    have b1 : (upd H p (.lst (ms.map V.int))) p = some (.lst (ms.map V.int)) := upd_same
    generalize upd H p (.lst (ms.map V.int)) = H1 at x1 b1
    refine ⟨p, rfl, ⟨_, SqL.of b1⟩, for_list (xs := ms.map V.int) (fun _ σ H' => H' = H1 ∧ ∃ (z : Int) (c : Option V), σ = [some (.ref a), some (.int m), some (.int z), c]) ⟨rfl, m, none, rfl⟩ (fun i σ H' _ h => ?_) (fun i x σ H' hx h => ?_) (fun σ H' h => ?_)⟩
    · obtain ⟨rfl, _⟩ := h
      exact SqL.of b1
    · obtain ⟨rfl, z, c, rfl⟩ := h
      obtain ⟨y, hy, rfl⟩ : ∃ y, ms[i]? = some y ∧ x = .int y := by
        rw [List.getElem?_map] at hx
        cases e : ms[i]? with
        | none => rw [e] at hx; cases hx
        | some y => rw [e] at hx; cases hx; exact ⟨y, rfl, rfl⟩
      refine ⟨_, rfl, _, _, rfl, rfl, .inr (by decide), _, rfl, .inl ⟨_, rfl, _, _, rfl, rfl, dv (by decide), _, _, rfl, rfl, _, _, rfl, rfl, .inl ⟨_, rfl, _, _, rfl, rfl, dv (by decide), ?_⟩⟩⟩
      exact ⟨rfl, _, _, rfl⟩
    · obtain ⟨rfl, z, c, rfl⟩ := h
      -- the dict
      refine fun t nt => ?_
      have x2 : Evl.Ex H (upd H' t (.dK [])) := x1.trans (Evl.Ex.new nt)
      have b2 : (upd H' t (.dK [])) t = some (.dK []) := upd_same
      have nH : H t = none := Evl.fresh_back x1 nt
      generalize upd H' t (.dK []) = H2 at x2 b2
      refine ⟨_, rfl, 63, rfl, a, _, rfl, Evl.ex_l x2 ea, fun p2 np2 => ?_⟩
      rw [em]
      have x3 : Evl.Ex H (upd H2 p2 (.lst (ms.map V.int))) := x2.trans (Evl.Ex.new np2)
      have b3 : (upd H2 p2 (.lst (ms.map V.int))) t = some (.dK []) := by rw [upd_ne (ne_of_none b2 np2)]; exact b2
      have b4 : (upd H2 p2 (.lst (ms.map V.int))) p2 = some (.lst (ms.map V.int)) := upd_same
      generalize upd H2 p2 (.lst (ms.map V.int)) = H3 at x3 b3 b4
      refine ⟨p2, _, rfl, .inl (SqL.of b4), fun p3 np3 => ?_⟩
      have x4 : Evl.Ex H (upd H3 p3 (.lst (ms.map V.int))) := x3.trans (Evl.Ex.new np3)
      have b5 : (upd H3 p3 (.lst (ms.map V.int))) t = some (.dK []) := by rw [upd_ne (ne_of_none b3 np3)]; exact b3
      have b6 : (upd H3 p3 (.lst (ms.map V.int))) p3 = some (.lst (ms.map V.int)) := upd_same
      generalize upd H3 p3 (.lst (ms.map V.int)) = H4 at x4 b5 b6
      refine ⟨p3, _, rfl, SqL.of b6, fun p4 np4 => ?_⟩
      rw [← List.map_reverse]
      have x5 : Evl.Ex H (upd H4 p4 (.lst (ms.reverse.map V.int))) := x4.trans (Evl.Ex.new np4)
      have b7 : (upd H4 p4 (.lst (ms.reverse.map V.int))) t = some (.dK []) := by rw [upd_ne (ne_of_none b5 np4)]; exact b5
      have b8 : (upd H4 p4 (.lst (ms.reverse.map V.int))) p4 = some (.lst (ms.reverse.map V.int)) := upd_same
      have nH4 : H p4 = none := Evl.fresh_back x4 np4
      generalize upd H4 p4 (.lst (ms.reverse.map V.int)) = H5 at x5 b7 b8
      refine ⟨_, rfl, b7, dkv p4 z 0, rfl, by show 3 ≤ 15; decide, ?_⟩
      rw [merge_deck]
      exact q t p4 _ ⟨ms.reverse, z, 0, by rw [List.length_reverse]; omega, upd_same, by rw [upd_ne (ne_of b8 b7 (by intro z; cases z))]; exact b8⟩ (x5.mut nH) nH nH4
end
end Ey
namespace Ey
open PySem PySem.Spec PyProof.Rows L2
/-! ### any value -/
abbrev sAny : Stmt := topS 16
theorem scAny : FnScope ["deck", "deep", "way", "some", "turn"] ["deck", "deep"] (defScope sAny) := ⟨rfl, rfl, rfl, by decide +kernel, rfl, by decide +kernel, by decide +kernel⟩
/-- a written leaf -/
def Leaf (v : V) : Prop := ∃ e, (∀ F H, Dd F H v e) ∧ Sz 7 1 e
theorem leaf_int {i : Int} (h : i.natAbs < 2 ^ 250) : Leaf (.int i) := ⟨.int i, fun _ _ => .int i, (sz_int h).mono (by decide) (by decide)⟩
theorem leaf_str {x : Str} (h : (x.cps.toList.all fun c => decide (c < 16 ^ 8)) = true) (hn : x.cps.size ≤ 7) : Leaf (.str x) := ⟨.str x, fun _ _ => .str x, (sz_str h hn).mono (by decide) (by decide)⟩
theorem leaf_non : Leaf .non := ⟨.none, fun _ _ => .non, sz_none.mono (by decide) (by decide)⟩
theorem leaf_bl (b : Bool) : Leaf (.bl b) := ⟨.bool b, fun _ _ => .bl b, (sz_bool b).mono (by decide) (by decide)⟩
theorem all_nil {p : V → Prop} : ∀ v ∈ ([] : List V), p v := fun _ h => nomatch h
theorem all_cons {p : V → Prop} {v : V} {vs : List V} (a : p v) (b : ∀ v ∈ vs, p v) : ∀ u ∈ v :: vs, p u := fun u h => by
  rcases List.mem_cons.mp h with rfl | h
  · exact a
  · exact b u h
theorem DdAll.mono {F G : Addr → Prop} {H : Hp} (fg : ∀ a, F a → G a) : ∀ {vs : List V} {ds : List PyData}, DdAll F H vs ds → DdAll G H vs ds := by
  have go : ∀ {v : V} {d : PyData}, Dd F H v d → Dd G H v d := fun h => by
    induction h using Dd.rec (motive_2 := fun vs ds _ => DdAll G H vs ds) with
    | non => exact .non
    | bl b => exact .bl b
    | int i => exact .int i
    | str x => exact .str x
    | lst f e _ ih => exact .lst (fg _ f) e ih
    | tup e _ ih => exact .tup e ih
    | dic f e _ ih => exact .dic (fg _ f) e ih
    | nil => exact .nil
    | cons _ _ a b => exact .cons a b
  intro vs
  induction vs with
  | nil => intro ds h; cases h; exact .nil
  | cons v vs ih => intro ds h; cases h with | cons a b => exact .cons (go a) (ih b)
theorem Dd.mono {F G : Addr → Prop} {H : Hp} {v : V} {d : PyData} (fg : ∀ a, F a → G a) (h : Dd F H v d) : Dd G H v d := by
  have x := DdAll.mono fg (DdAll.cons h .nil)
  cases x with
  | cons a _ => exact a
theorem DdAll.snoc {F : Addr → Prop} {H : Hp} {v : V} {d : PyData} : ∀ {vs : List V} {ds : List PyData}, DdAll F H vs ds → Dd F H v d → DdAll F H (vs ++ [v]) (ds ++ [d])
  | _, _, .nil, h => .cons h .nil
  | _, _, .cons a b, h => .cons a (DdAll.snoc b h)
/-- the deck's own objects are no data -/
theorem kp_keep {d l : Addr} {F : Addr → Prop} {H H' : Hp} (D : Deck d l H) (k : Kp d l H H') (f : ∀ a, F a → a ≠ d ∧ a ≠ l) : ∀ a o, H a = some o → (F a ∨ ∃ xs, o = .tup xs) → H' a = some o := fun a o e h => by
  obtain ⟨ns, m, z, _, e1, e2⟩ := D.ex
  rcases h with h | ⟨xs, rfl⟩
  · exact k a o e (f a h).1 (f a h).2
  · exact k a _ e (ne_of e e1 (by intro z; cases z)) (ne_of e e2 (by intro z; cases z))
theorem Deck.off {d l : Addr} {H : Hp} (D : Deck d l H) {a : Addr} (h : H a = none) : a ≠ d ∧ a ≠ l := by
  obtain ⟨ns, m, z, _, e1, e2⟩ := D.ex
  exact ⟨(ne_of_none e1 h).symm, (ne_of_none e2 h).symm⟩
theorem Deck.upd {d l p : Addr} {o : HO} {H : Hp} (D : Deck d l H) (n : p ≠ d ∧ p ≠ l) : Deck d l (upd H p o) := by
  obtain ⟨ns, m, z, h, e1, e2⟩ := D.ex
  exact ⟨ns, m, z, h, by rw [upd_ne n.1.symm]; exact e1, by rw [upd_ne n.2.symm]; exact e2⟩
theorem Kp.mut {d l p : Addr} {o : HO} {H H' : Hp} (k : Kp d l H H') (h : H p = none) : Kp d l H (L2.upd H' p o) := fun a u e n1 n2 => by
  rw [upd_ne (ne_of_none e h)]
  exact k a u e n1 n2
/-- a list that is no part of the data changes -/
theorem upd_keep {F : Addr → Prop} {H : Hp} {p : Addr} {xs : List V} {o : HO} (e : H p = some (.lst xs)) (f : ∀ a, F a → a ≠ p) : ∀ a u, H a = some u → (F a ∨ ∃ xs, u = .tup xs) → upd H p o a = some u := fun a u ha h => by
  rcases h with h | ⟨ys, rfl⟩
  · rw [upd_ne (f a h)]; exact ha
  · rw [upd_ne (ne_of ha e (by intro z; cases z))]; exact ha
/-- a new object -/
theorem new_keep {F : Addr → Prop} {H : Hp} {p : Addr} {o : HO} (n : H p = none) : ∀ a u, H a = some u → (F a ∨ ∃ xs, u = .tup xs) → L2.upd H p o a = some u := fun a u ha _ => by
  rw [upd_ne (ne_of_none ha n)]
  exact ha
/-- what was there is there -/
theorem Kp.back {d l : Addr} {H H' : Hp} (D' : Deck d l H') (k : Kp d l H H') {a : Addr} (h : H' a = none) : H a = none := by
  cases e : H a with
  | none => rfl
  | some o =>
    have n := D'.off h
    rw [k a o e n.1 n.2] at h
    cases h
section
variable {P : Program} {w : World} {K : PySem.W.Frag} {mg : Str → Option Value} {base : Heap}
theorem sz_dict2 {n1 n2 n3 n4 m1 m2 m3 m4 : Nat} {a b c e : PyData} (za : Sz n1 m1 a) (zb : Sz n2 m2 b) (zc : Sz n3 m3 c) (ze : Sz n4 m4 e) : Sz (n1 + n2 + n3 + n4 + 4) (max (max m1 m2) (max m3 m4) + 1) (.dict [(a, b), (c, e)]) := by
  refine ⟨by simp [PyData.showable, PyData.showableKv, za.sh, zb.sh, zc.sh, ze.sh], by simp [PyData.leavesShort, PyData.leavesShortKv, za.ls, zb.ls, zc.ls, ze.ls], ?_, ?_⟩
  · have b1 := za.bk
    have b2 := zb.bk
    have b3 := zc.bk
    have b4 := ze.bk
    simp only [PyData.bulk, PyData.bulkKv]
    omega
  · have b1 := za.dp
    have b2 := zb.dp
    have b3 := zc.dp
    have b4 := ze.dp
    simp only [PyData.depth, PyData.depthKv]
    omega
/-- how big -/
def big : Nat → Nat
  | 0 => 7
  | n + 1 => 3 * (big n + 1) + 7
def spAny (n : Nat) : Sp := fun vs H Q _ => ∃ (d l : Addr) (deep : Int), vs = [.ref d, .int deep] ∧ deep ≤ n ∧ Deck d l H ∧
  ∀ (v : V) (e : PyData) (H' : Hp), Dd (fun a => H a = none) H' v e → Sz (big n) (2 * n + 2) e → Deck d l H' → Kp d l H H' → Q v H'
theorem yes_go {σ : L2.St} {H : Hp} {A : Hp → Prop} {B : Hp → Prop} (h : A H) : tYes σ H fun b H3 => if b = true then A H3 else B H3 := by
  show if true = true then A H else B H
  exact iteT h
theorem merge_any {v u : V} : mergeK [] [((Sum.inr ("key" : Str) : Key), v), (.inl 1, u)] = [((Sum.inr ("key" : Str) : Key), v), (.inl 1, u)] := by
  have n0 : ¬ (Sum.inr ("key" : Str) : Key) = Sum.inl 1 := fun z => by cases z
  have n1 : valV [((Sum.inr ("key" : Str) : Key), v)] (Sum.inl 1) = none := (valV_neg n0).trans valV_nil
  show putK (putK ([] : List (Key × V)) (Sum.inr ("key" : Str)) v) (Sum.inl 1) u = _
  rw [show putK ([] : List (Key × V)) (Sum.inr ("key" : Str)) v = [((Sum.inr ("key" : Str) : Key), v)] from rfl, putK_new _ n1] <;> rfl
/-- the promise one deep less -/
def spAnyR : Nat → Sp
  | 0 => fun _ _ _ _ => False
  | n + 1 => spAny n
theorem big_ge : ∀ n, 7 ≤ big n
  | 0 => Nat.le_refl _
  | n + 1 => by have := big_ge n; unfold big; omega
theorem leaf_end {n : Nat} {d l : Addr} {xs : List V} {H : Hp} {Q : VK} (L : ∀ v ∈ xs, Leaf v) (q : ∀ (v : V) (e : PyData) (H' : Hp), Dd (fun a => H a = none) H' v e → Sz (big n) (2 * n + 2) e → Deck d l H' → Kp d l H H' → Q v H')
    {H1 : Hp} (k1 : Kp d l H H1) : ∀ (i : Nat) (v : V) (H' : Hp), xs[i]? = some v → Deck d l H' → Kp d l H1 H' → Q v H' := fun i v H' e D k => by
  obtain ⟨e, hd, z⟩ := L v (List.mem_of_getElem? e)
  exact q v e H' (hd _ _) (z.mono (big_ge n) (by omega)) D (k1.trans k)
theorem fk_anyS (S : At K mg "_law_any" sAny) (T : Blt mg) (GD : Fk P w K mg base CX0 1 "_law_draw" ["deck", "many"] spDraw) (GP : Fk P w K mg base CX0 2 "_law_pick" ["deck", "some"] spPick) (n : Nat)
    (GR : Fk P w K mg base CX0 (n + 2) "_law_any" ["deck", "deep"] (spAnyR n)) : Fk P w K mg base CX0 (n + 3) "_law_any" ["deck", "deep"] (spAny n) := by
  obtain ⟨f, fd, F, g⟩ := S.ex
  refine ⟨f, fd, F.ok scAny (fun vs H Q E h => ?_) (fun cdv A outer s H vs Q E hr h => ?_), F.binds fun _ _ _ _ _ _ us hl => (match us, hl with | [_, _], _ => rfl), g, F.kp, fun_lk F⟩
  · obtain ⟨d, l, m, rfl, _⟩ := h
    rfl
  · obtain ⟨d, l, deep, rfl, hn, D, q⟩ := h
    have h1 : Room 1 (A.deeper (envOfC "_law_any" (defScope sAny) s.heap.objs.size f cdv)) := hr.mono (by omega)
    have h2 : Room 2 (A.deeper (envOfC "_law_any" (defScope sAny) s.heap.objs.size f cdv)) := hr.mono (by omega)
    refine ⟨_, pss_cons (ps_set (i := 2) scAny.nd rfl (.inl rfl) (pe_cl GD h1 (by rfl) pass0 (pa_cons (pv 0) (pa_cons pe_int pa_nil))))
      (pss_cons (ps_if (pt_cmpR op_lt (pv 2) pe_int (nomark _)) (pss_one (ps_ret (pe_cl GP h2 (by rfl) pass0 (pa_cons (pv 0) (pa_cons (pe_lst (pa_cons pe_int (pa_cons pe_int (pa_cons (pe_un un_neg pe_int) (pa_cons pe_int
          (pa_cons (pe_op op_pow pe_int pe_int) (pa_cons (pe_un un_neg (pe_op op_pow pe_int pe_int)) (pa_cons pe_int (pa_cons pe_int pa_nil))))))))) pa_nil))))) pss_nil)
      (pss_cons (ps_if (pt_cmpR op_lt (pv 2) pe_int (nomark _)) (pss_one (ps_ret (pe_cl GP h2 (by rfl) pass0 (pa_cons (pv 0) (pa_cons (pe_lst (pa_cons pe_str (pa_cons pe_str (pa_cons pe_str (pa_cons pe_str (pa_cons pe_str (pa_cons pe_str pa_nil))))))) pa_nil))))) pss_nil)
      (pss_cons (ps_if (pt_cmpR op_eq (pv 2) pe_int (nomark _)) (pss_one (ps_ret (pe_cl GP h2 (by rfl) pass0 (pa_cons (pv 0) (pa_cons (pe_lst (pa_cons pe_bl (pa_cons pe_bl (pa_cons pe_non pa_nil)))) pa_nil))))) pss_nil)
      (Evl.pss_cut (ps_set (i := 3) scAny.nd rfl (.inl rfl) (pe_ifExp (pt_cmpR op_gt (pv 1) pe_int (nomark _))
          (pe_lc (own := [("turn", 4)]) (g := gName 4) (tt := tYes) rfl scAny.nd (pi_range1 rfl T.range (pa_cons (pe_cl GD h1 (by rfl) pass0 (pa_cons (pv 0) (pa_cons pe_int pa_nil))) pa_nil))
            (blkOk_by (own := [("turn", 4)]) (N := ["deck", "deep", "way", "some", "turn"]) (sc := defScope sAny) (by decide +kernel)) (fun _ _ _ _ _ => pg_name (i := 4) scAny.nd rfl (Or.inl rfl)) (fun _ _ _ _ _ => pts_nil)
            (fun _ _ _ _ _ => pe_cl GR hr (by rfl) pass0 (pa_cons (pv 0) (pa_cons (pe_op op_sub (pv 1) pe_int) pa_nil))))
          (pe_lst pa_nil)))
      (pss_cons (ps_if (pt_cmpR op_eq (pv 2) pe_int (nomark _)) (pss_one (ps_ret (pv 3))) pss_nil)
      (pss_one (ps_ret (pe_ifExp (pt_cmpR op_eq (pv 2) pe_int (nomark _))
        (pe_disp (pps_cons pe_str (pv 3) (pps_cons pe_int (pe_callB call_len_seq (by rfl) T.len PySem.boot_len (pa_cons (pv 3) pa_nil)) pps_nil)) (by rfl) (by rfl) (fun z => by cases z) (by decide))
        (pe_callTy call_tuple_of (by rfl) T.tuple (by decide +kernel) (pa_cons (pv 3) pa_nil)))))))))), ?_⟩
    refine ⟨_, rfl, d, l, 10, rfl, by decide, by decide, D, fun r H1 r0 r1 D1 k1 => ?_⟩
    have x0 : [some (V.ref d), some (V.int deep), some (V.int r), none, none] = [some (V.ref d), some (V.int deep), some (V.int r), none, none] := rfl
    -- way < 2
    refine ⟨_, rfl, r, 2, rfl, rfl, _, rfl, ite2 (fun _ => ?_) (fun c1 => ?_)⟩
    · refine ⟨_, rfl, 1, rfl, 10, 11, rfl, rfl, ⟨by decide, by decide, by decide⟩, 10, 10, rfl, rfl, ⟨by decide, by decide, by decide⟩, _, rfl, by show 8 ≤ sizeLine; decide, fun p np => ?_⟩
      refine ⟨d, l, p, _, rfl, D1.new np, upd_same, (D1.off np).1, (D1.off np).2, by decide, by decide, leaf_end (all_cons (leaf_int (by decide)) (all_cons (leaf_int (by decide)) (all_cons (leaf_int (by decide)) (all_cons (leaf_int (by decide))
        (all_cons (leaf_int (by decide)) (all_cons (leaf_int (by decide)) (all_cons (leaf_int (by decide)) (all_cons (leaf_int (by decide)) all_nil)))))))) q (k1.new np)⟩
    -- way < 4
    refine ⟨_, rfl, r, 4, rfl, rfl, _, rfl, ite2 (fun _ => ?_) (fun c2 => ?_)⟩
    · refine ⟨_, rfl, by show 6 ≤ sizeLine; decide, fun p np => ?_⟩
      refine ⟨d, l, p, _, rfl, D1.new np, upd_same, (D1.off np).1, (D1.off np).2, by decide, by decide, leaf_end (all_cons (leaf_str (by decide +kernel) (by decide +kernel)) (all_cons (leaf_str (by decide +kernel) (by decide +kernel)) (all_cons (leaf_str (by decide +kernel) (by decide +kernel))
        (all_cons (leaf_str (by decide +kernel) (by decide +kernel)) (all_cons (leaf_str (by decide +kernel) (by decide +kernel)) (all_cons (leaf_str (by decide +kernel) (by decide +kernel)) all_nil)))))) q (k1.new np)⟩
    -- way == 4
    refine ⟨_, rfl, rfl, _, rfl, ite2 (fun _ => ?_) (fun c3 => ?_)⟩
    · refine ⟨_, rfl, by show 3 ≤ sizeLine; decide, fun p np => ?_⟩
      refine ⟨d, l, p, _, rfl, D1.new np, upd_same, (D1.off np).1, (D1.off np).2, by decide, by decide, leaf_end (all_cons (leaf_bl _) (all_cons (leaf_bl _) (all_cons leaf_non all_nil))) q (k1.new np)⟩
    -- some = ..
    refine ⟨fun σ' H' => ∃ (a : Addr) (vs : List V) (ds : List PyData), σ' = [some (V.ref d), some (V.int deep), some (V.int r), some (V.ref a), none] ∧ H' a = some (.lst vs) ∧ H a = none ∧ DdAll (fun x => H x = none) H' vs ds ∧ ds.length ≤ 3 ∧ SzA (big n - 7) (2 * n) ds ∧ Deck d l H' ∧ Kp d l H H', ?_, ?_⟩
    · refine ⟨_, rfl, deep, 0, rfl, rfl, _, rfl, ite2 (fun hd => ?_) (fun _ => ?_)⟩
      · have hd : 0 < deep := of_decide_eq_true hd
        obtain ⟨n', rfl⟩ : ∃ n', n = n' + 1 := ⟨n - 1, by omega⟩
        refine ⟨_, rfl, d, l, 4, rfl, by decide, by decide, D1, fun t H2 t0 t1 D2 k2 => ⟨t, rfl, by omega, by omega, fun p np => ?_⟩⟩
        have kp2 := k1.trans k2
        have nHp : H p = none := kp2.back D2 np
        have offp := D2.off np
        refine lc_range (lo := 0) (n := t.toNat) (fun i H' => ∃ (vs : List V) (ds : List PyData), ds.length = i ∧ H' p = some (.lst vs) ∧ DdAll (fun a => H a = none ∧ a ≠ p) H' vs ds ∧ (∀ e ∈ ds, Sz (big n') (2 * n' + 2) e) ∧ Deck d l H' ∧ Kp d l H H')
          ⟨[], [], rfl, upd_same, .nil, (fun _ h => nomatch h), D2.new np, kp2.new np⟩ (fun i Hc hi hp => ?_) (fun H' hp => ?_)
        · obtain ⟨vs, ds, hl, ep, hdd, hsz, Dc, kc⟩ := hp
          refine ⟨rfl, yes_go ?_⟩
          refine ⟨_, rfl, _, rfl, deep, 1, rfl, rfl, d, l, deep - 1, rfl, by omega, Dc, fun v e H' hv zv D' k' => ?_⟩
          have ep' : H' p = some (.lst vs) := k' p _ ep offp.1 offp.2
          have fo : ∀ a, (H a = none ∧ a ≠ p) → a ≠ d ∧ a ≠ l := fun a h => D.off h.1
          have hdd' := DdAll.keep (upd_keep (o := .lst (vs ++ [v])) ep' fun a h => h.2) (DdAll.keep (kp_keep Dc k' fo) hdd)
          have hv' := Dd.keep (upd_keep (o := .lst (vs ++ [v])) ep' fun a h => h.2) (hv.mono (G := fun a => H a = none ∧ a ≠ p) fun a h => ⟨kc.back Dc h, fun z => by rw [z, ep] at h; cases h⟩)
          have hlen : vs.length < sizeLine := by
            rw [hdd.length, hl]
            exact small1000 (by omega)
          exact ⟨vs, ep', hlen, vs ++ [v], ds ++ [e], by rw [List.length_append, hl] <;> rfl, upd_same, hdd'.snoc hv', fun y hy => (List.mem_append.mp hy).elim (hsz y) (fun h => by rw [List.mem_singleton.mp h]; exact zv), D'.upd offp, (kc.trans k').mut nHp⟩
        · obtain ⟨vs, ds, hl, ep, hdd, hsz, Dc, kc⟩ := hp
          have hz := sza_of hsz
          have hl3 : ds.length ≤ 3 := by omega
          have hb : big (n' + 1) = 3 * (big n' + 1) + 7 := rfl
          have hm : (big n' + 1) * ds.length ≤ big (n' + 1) - 7 := by
            have := Nat.mul_le_mul_left (big n' + 1) hl3
            omega
          exact ⟨p, vs, ds, rfl, ep, nHp, DdAll.mono (fun a h => h.1) hdd, hl3, hz.mono hm (by omega), Dc, kc⟩
      · exact ⟨Nat.zero_le _, fun p np => ⟨p, [], [], rfl, upd_same, k1.back D1 np, .nil, by decide, sza_nil.mono (Nat.zero_le _) (Nat.le_refl _), D1.new np, k1.new np⟩⟩
    · rintro σ' H' ⟨a, vs, ds, rfl, ea, na, hdd, hl3, hz, D', k'⟩
      have hb := big_ge n
      -- way == 5
      refine ⟨_, rfl, rfl, _, rfl, ite2 (fun _ => ?_) (fun c5 => ?_)⟩
      · exact ⟨_, rfl, q _ _ H' (.lst na ea hdd) (hz.list.mono (by omega) (by omega)) D' k'⟩
      refine ⟨_, rfl, rfl, _, rfl, ite2 (fun _ => ?_) (fun c6 => ?_)⟩
      · refine fun t nt => ?_
        have e1 : (upd H' t (.dK [])) a = some (.lst vs) := by rw [upd_ne (ne_of_none ea nt)]; exact ea
        refine ⟨_, rfl, _, rfl, a, vs, rfl, .inl (SqL.of e1), upd_same, [(.inr ("key" : Str), .ref a), (.inl 1, .int (vs.length : Int))], rfl, by show 2 ≤ 15; decide, ?_⟩
        rw [merge_any, upd_upd]
        have hlen : vs.length ≤ 3 := by rw [hdd.length]; exact hl3
        refine q _ _ _ (.dic (k'.back D' nt) upd_same (.cons (.lst na (by rw [upd_ne (ne_of_none ea nt)]; exact ea) (DdAll.keep (new_keep nt) hdd)) (.cons (.int _) .nil))) ?_ (D'.new nt) (k'.new nt)
        have z1 := hz.list
        have z2 : Sz 0 0 (.int (vs.length : Int)) := sz_int (Nat.lt_of_le_of_lt (show ((vs.length : Nat) : Int).natAbs ≤ 3 by omega) (by decide))
        have z3 : Sz 3 0 (.str ("key" : Str)) := sz_str (by decide +kernel) (by decide +kernel)
        have z4 : Sz 0 0 (.int 1) := sz_int (by decide)
        show Sz (big n) (2 * n + 2) (.dict [(.str ("key" : Str), .list ds), (.int 1, .int (vs.length : Int))])
        exact (sz_dict2 (z3.mono (Nat.le_refl 3) (Nat.zero_le (2 * n))) (z1.mono (Nat.le_refl _) (Nat.le_refl _)) (z4.mono (Nat.le_refl 0) (Nat.zero_le (2 * n))) (z2.mono (Nat.le_refl 0) (Nat.zero_le (2 * n)))).mono (by omega) (by omega)
      · refine ⟨_, rfl, a, vs, rfl, .inl ⟨SqL.of ea, fun p np => ?_⟩⟩
        exact q _ _ _ (.tup upd_same (DdAll.keep (new_keep np) hdd)) (hz.tuple.mono (by omega) (by omega)) (D'.new np) (k'.new np)
theorem fk_none {x : Str} {st : Stmt} {k : Nat} {ps : List Str} (S : At K mg x st) (B : ∀ f fd, Fun K x x st f fd → Binds K fd ps []) : Fk P w K mg base CX0 k x ps (fun _ _ _ _ => False) := by
  obtain ⟨f, fd, F, g⟩ := S.ex
  exact ⟨f, fd, ⟨fun _ _ _ _ h => h.elim, fun _ _ _ _ _ _ _ _ _ _ _ _ _ h => h.elim⟩, B f fd F, g, F.kp, fun_lk F⟩
theorem fk_any (S : At K mg "_law_any" sAny) (T : Blt mg) (GD : Fk P w K mg base CX0 1 "_law_draw" ["deck", "many"] spDraw) (GP : Fk P w K mg base CX0 2 "_law_pick" ["deck", "some"] spPick) :
    ∀ n, Fk P w K mg base CX0 (n + 3) "_law_any" ["deck", "deep"] (spAny n)
  | 0 => fk_anyS S T GD GP 0 (fk_none S fun f fd F => F.binds fun _ _ _ _ _ _ us hl => (match us, hl with | [_, _], _ => rfl))
  | n + 1 => fk_anyS S T GD GP (n + 1) (fk_any S T GD GP n)
end
end Ey
namespace Ey
open PySem PySem.Spec PyProof.Rows L2
/-! ### data in rows -/
theorem dd_take {F : Addr → Prop} {H : Hp} : ∀ {vs : List V} {ds : List PyData} (n : Nat), DdAll F H vs ds → DdAll F H (vs.take n) (ds.take n)
  | _, _, 0, _ => .nil
  | _, _, _ + 1, .nil => .nil
  | _, _, n + 1, .cons a b => .cons a (dd_take n b)
theorem dd_drop {F : Addr → Prop} {H : Hp} : ∀ {vs : List V} {ds : List PyData} (n : Nat), DdAll F H vs ds → DdAll F H (vs.drop n) (ds.drop n)
  | _, _, 0, h => h
  | _, _, _ + 1, .nil => .nil
  | _, _, n + 1, .cons a b => dd_drop n b
theorem dd_app {F : Addr → Prop} {H : Hp} : ∀ {vs : List V} {ds : List PyData} {us : List V} {es : List PyData}, DdAll F H vs ds → DdAll F H us es → DdAll F H (vs ++ us) (ds ++ es)
  | _, _, _, _, .nil, h => h
  | _, _, _, _, .cons a b, h => .cons a (dd_app b h)
theorem dd_ints {F : Addr → Prop} {H : Hp} : ∀ ns : List Int, DdAll F H (ns.map V.int) (ns.map PyData.int)
  | [] => .nil
  | n :: r => .cons (.int n) (dd_ints r)
theorem lt250 {n : Nat} (h : n < 2 ^ 240) : n < 2 ^ 250 := Nat.lt_of_lt_of_le h (Nat.pow_le_pow_right (by decide) (by decide))
theorem sza_app {n1 n2 m : Nat} : ∀ {ds es : List PyData}, SzA n1 m ds → SzA n2 m es → SzA (n1 + n2) m (ds ++ es)
  | [], es, _, b => b.mono (by omega) (Nat.le_refl _)
  | d :: ds, es, a, b => by
    have a1 := a.sh
    have a2 := a.ls
    have a3 := a.bk
    have a4 := a.dp
    simp only [PyData.showableAll, PyData.leavesShortAll, PyData.bulkAll, PyData.depthAll, Bool.and_eq_true] at a1 a2 a3 a4
    have ih := sza_app (n1 := PyData.bulkAll ds) (ds := ds) (es := es) ⟨a1.2, a2.2, Nat.le_refl _, by omega⟩ b
    have hd : Sz (PyData.bulk d) m d := ⟨a1.1, a2.1, Nat.le_refl _, by omega⟩
    exact (sza_cons hd ih).mono (by omega) (Nat.le_refl _)
/-- what bending takes: an integer, or (b) a tuple of integers -/
theorem dd_set {F : Addr → Prop} {H : Hp} {v : V} {e : PyData} : ∀ {vs : List V} {ds : List PyData} (n : Nat), DdAll F H vs ds → Dd F H v e → DdAll F H (vs.set n v) (ds.set n e)
  | _, _, _, .nil, _ => .nil
  | _, _, 0, .cons _ b, h => .cons h b
  | _, _, n + 1, .cons a b, h => .cons a (dd_set n b h)
theorem pick_dd {c m : Nat} {d l : Addr} {xs : List V} {H H1 : Hp} {Q : VK} {F : Addr → Prop} (D1 : Deck d l H1) (k1 : Kp d l H H1) (f : ∀ a, F a → a ≠ d ∧ a ≠ l) (L : ∀ v ∈ xs, ∃ e, Dd F H1 v e ∧ Sz c m e)
    (q : ∀ (v : V) (e : PyData) (H' : Hp), Dd F H' v e → Sz c m e → Deck d l H' → Kp d l H H' → Q v H') : ∀ (i : Nat) (v : V) (H' : Hp), xs[i]? = some v → Deck d l H' → Kp d l H1 H' → Q v H' := fun i v H' e D k => by
  obtain ⟨e, hd, z⟩ := L v (List.mem_of_getElem? e)
  exact q v e H' (Dd.keep (kp_keep D1 k f) hd) z D (k1.trans k)
end Ey
namespace Ey
open PySem PySem.Spec PyProof.Rows L2
/-! ### integers, tuples of integers -/
abbrev sIsInt : Stmt := topS 5
abbrev sIsTup : Stmt := topS 6
abbrev sLIsInt : Stmt := topS 15
abbrev sLAre : Stmt := topS 17
theorem scIsInt : FnScope ["thing"] ["thing"] (defScope sIsInt) := ⟨rfl, rfl, rfl, by decide +kernel, rfl, by decide +kernel, by decide +kernel⟩
theorem scLIsInt : FnScope ["thing"] ["thing"] (defScope sLIsInt) := ⟨rfl, rfl, rfl, by decide +kernel, rfl, by decide +kernel, by decide +kernel⟩
theorem scIsTup : FnScope ["thing", "many", "n"] ["thing", "many"] (defScope sIsTup) := ⟨rfl, rfl, rfl, by decide +kernel, rfl, by decide +kernel, by decide +kernel⟩
theorem scLAre : FnScope ["thing", "many", "x"] ["thing", "many"] (defScope sLAre) := ⟨rfl, rfl, rfl, by decide +kernel, rfl, by decide +kernel, by decide +kernel⟩
def isInt : PyData → Bool
  | .int _ => true
  | _ => false
def isBool : PyData → Bool
  | .bool _ => true
  | _ => false
def isTup : PyData → Bool
  | .tuple _ => true
  | _ => false
theorem ty_of {K : PySem.W.Frag} {F : Addr → Prop} {H : Hp} {v : V} {e : PyData} (h : Dd F H v e) : ∃ T : String, TyX K H v (.type T) ∧ kitB T "int" = some (isInt e || isBool e) ∧ kitB T "bool" = some (isBool e) ∧ kitB T "tuple" = some (isTup e) := by
  cases h with
  | non => exact ⟨_, .base .non, by show kitB "NoneType" "int" = some false; decide +kernel, by show kitB "NoneType" "bool" = some false; decide +kernel, by show kitB "NoneType" "tuple" = some false; decide +kernel⟩
  | bl b => exact ⟨_, .base (.bl b), by show kitB "bool" "int" = some true; decide +kernel, by show kitB "bool" "bool" = some true; decide +kernel, by show kitB "bool" "tuple" = some false; decide +kernel⟩
  | int i => exact ⟨_, .base (.int i), by show kitB "int" "int" = some true; decide +kernel, by show kitB "int" "bool" = some false; decide +kernel, by show kitB "int" "tuple" = some false; decide +kernel⟩
  | str x => exact ⟨_, .base (.str x), by show kitB "str" "int" = some false; decide +kernel, by show kitB "str" "bool" = some false; decide +kernel, by show kitB "str" "tuple" = some false; decide +kernel⟩
  | lst f e _ => exact ⟨_, .base (.lst e), by show kitB "list" "int" = some false; decide +kernel, by show kitB "list" "bool" = some false; decide +kernel, by show kitB "list" "tuple" = some false; decide +kernel⟩
  | tup e _ => exact ⟨_, .base (.tup e), by show kitB "tuple" "int" = some false; decide +kernel, by show kitB "tuple" "bool" = some false; decide +kernel, by show kitB "tuple" "tuple" = some true; decide +kernel⟩
  | dic f e _ => exact ⟨_, .base (.dK e), by show kitB "dict" "int" = some false; decide +kernel, by show kitB "dict" "bool" = some false; decide +kernel, by show kitB "dict" "tuple" = some false; decide +kernel⟩
theorem DdAll.at {F : Addr → Prop} {H : Hp} : ∀ {vs : List V} {ds : List PyData} {i : Nat} {v : V}, DdAll F H vs ds → vs[i]? = some v → ∃ e, ds[i]? = some e ∧ Dd F H v e
  | _, _, _, _, .nil, h => by simp at h
  | _, _, 0, _, .cons a _, h => by
    cases h
    exact ⟨_, rfl, a⟩
  | _, _, i + 1, _, .cons _ b, h => by
    obtain ⟨e, h1, h2⟩ := DdAll.at (i := i) b (by simpa using h)
    exact ⟨e, by simpa using h1, h2⟩
theorem ex_keep {F : Addr → Prop} {H H' : Hp} (x : Evl.Ex H H') : ∀ a o, H a = some o → (F a ∨ ∃ xs, o = .tup xs) → H' a = some o := fun a o e _ => x a o e
section
variable {P : Program} {w : World} {K : PySem.W.Frag} {mg : Str → Option Value} {base : Heap}
def spIsInt : Sp := fun vs H Q _ => ∃ (v : V) (F : Addr → Prop) (e : PyData), vs = [v] ∧ Dd F H v e ∧ Q (.bl (isInt e)) H
theorem isInt_read {e : PyData} {Q : V → Prop} (q : Q (.bl (isInt e))) : if (isInt e || isBool e) = true then Q (.bl (!isBool e)) else Q (.bl false) := by
  cases e <;> exact q
theorem fk_isInt (S : At K mg "is_integer" sIsInt) (T : Blt mg) : Fk P w K mg base CX0 1 "is_integer" ["thing"] spIsInt := by
  obtain ⟨f, fd, F, g⟩ := S.ex
  refine ⟨f, fd, F.ok scIsInt (fun vs H Q E h => ?_) (fun cdv A outer s H vs Q E hr h => ?_), F.binds fun _ _ _ _ _ _ us hl => (match us, hl with | [_], _ => rfl), g, F.kp, fun_lk F⟩
  · obtain ⟨v, G, e, rfl, _⟩ := h
    rfl
  · obtain ⟨v, G, e, rfl, hd, q⟩ := h
    refine ⟨_, pss_one (ps_ret (pe_and (pe_callB call_isi (by rfl) T.isinst (by decide +kernel) (pa_cons (pv 0) (pa_cons (pe_bltn (v := .ty "int") (by rfl) T.int (by decide +kernel) rfl) pa_nil)))
      (pe_one (pe_not (pe_callB call_isi (by rfl) T.isinst (by decide +kernel) (pa_cons (pv 0) (pa_cons (pe_bltn (v := .ty "bool") (by rfl) T.bool (by decide +kernel) rfl) pa_nil))))))), ?_⟩
    obtain ⟨t, ty, k1, k2, _⟩ := ty_of (K := K) hd
    refine ⟨_, rfl, _, _, _, _, _, rfl, .ty _, ty, kit_ty k1, _, rfl, ite2 (fun h1 => ?_) (fun h1 => ?_)⟩
    · refine ⟨_, rfl, _, _, _, _, _, rfl, .ty _, ty, kit_ty k2, _, rfl, ?_⟩
      have := isInt_read (Q := fun v => Q v H) q
      rw [if_pos h1] at this
      exact this
    · have := isInt_read (Q := fun v => Q v H) q
      rw [if_neg h1] at this
      exact this
theorem fk_lIsInt (S : At K mg "_law_is_integer" sLIsInt) (T : Blt mg) : Fk P w K mg base CX0 1 "_law_is_integer" ["thing"] spIsInt := by
  obtain ⟨f, fd, F, g⟩ := S.ex
  refine ⟨f, fd, F.ok scLIsInt (fun vs H Q E h => ?_) (fun cdv A outer s H vs Q E hr h => ?_), F.binds fun _ _ _ _ _ _ us hl => (match us, hl with | [_], _ => rfl), g, F.kp, fun_lk F⟩
  · obtain ⟨v, G, e, rfl, _⟩ := h
    rfl
  · obtain ⟨v, G, e, rfl, hd, q⟩ := h
    refine ⟨_, pss_one (ps_ret (pe_and (pe_callB call_isi (by rfl) T.isinst (by decide +kernel) (pa_cons (pv 0) (pa_cons (pe_bltn (v := .ty "int") (by rfl) T.int (by decide +kernel) rfl) pa_nil)))
      (pe_one (pe_not (pe_callB call_isi (by rfl) T.isinst (by decide +kernel) (pa_cons (pv 0) (pa_cons (pe_bltn (v := .ty "bool") (by rfl) T.bool (by decide +kernel) rfl) pa_nil))))))), ?_⟩
    obtain ⟨t, ty, k1, k2, _⟩ := ty_of (K := K) hd
    refine ⟨_, rfl, _, _, _, _, _, rfl, .ty _, ty, kit_ty k1, _, rfl, ite2 (fun h1 => ?_) (fun h1 => ?_)⟩
    · refine ⟨_, rfl, _, _, _, _, _, rfl, .ty _, ty, kit_ty k2, _, rfl, ?_⟩
      have := isInt_read (Q := fun v => Q v H) q
      rw [if_pos h1] at this
      exact this
    · have := isInt_read (Q := fun v => Q v H) q
      rw [if_neg h1] at this
      exact this
/-- whether it is a tuple of so many integers -/
def isInts (n : Int) : PyData → Bool
  | .tuple ds => (ds.length : Int) == n && ds.all isInt
  | _ => false
theorem isInts_tup {n : Int} {ds : List PyData} : isInts n (.tuple ds) = ((ds.length : Int) == n && ds.all isInt) := rfl
def spIsTup : Sp := fun vs H Q _ => ∃ (v : V) (F : Addr → Prop) (e : PyData) (n : Int) (c : Nat) (m : Nat), vs = [v, .int n] ∧ Dd F H v e ∧ Sz c m e ∧ c ≤ 7000 ∧ ∀ H', Evl.Ex H H' → Q (.bl (isInts n e)) H'
theorem bulk_len : ∀ ds : List PyData, ds.length ≤ PyData.bulkAll ds
  | [] => Nat.zero_le _
  | d :: ds => by
    have := bulk_len ds
    simp only [PyData.bulkAll, List.length_cons]
    omega
def spIsTupB : Sp := fun vs H Q _ => ∃ (v : V) (F : Addr → Prop) (e : PyData) (n : Int), vs = [v, .int n] ∧ Dd F H v e ∧ e.bulk ≤ 7000 ∧ ∀ H', Evl.Ex H H' → Q (.bl (isInts n e)) H'
theorem fk_isTupB (S : At K mg "is_tuple_of_integers" sIsTup) (T : Blt mg) (GI : Fk P w K mg base CX0 1 "is_integer" ["thing"] spIsInt) : Fk P w K mg base CX0 2 "is_tuple_of_integers" ["thing", "many"] spIsTupB := by
  obtain ⟨f, fd, F, g⟩ := S.ex
  refine ⟨f, fd, F.ok scIsTup (fun vs H Q E h => ?_) (fun cdv A outer s H vs Q E hr h => ?_), F.binds fun _ _ _ _ _ _ us hl => (match us, hl with | [_, _], _ => rfl), g, F.kp, fun_lk F⟩
  · obtain ⟨v, G, e, n, rfl, _⟩ := h
    rfl
  · obtain ⟨v, G, e, n, rfl, hd, hz, q⟩ := h
    refine ⟨_, pss_one (ps_ret (pe_and (pe_callB call_isi (by rfl) T.isinst (by decide +kernel) (pa_cons (pv 0) (pa_cons (pe_bltn (v := .ty "tuple") (by rfl) T.tuple (by decide +kernel) rfl) pa_nil)))
      (pe_and (pe_cmpR op_eq (pe_callB call_len_seq (by rfl) T.len PySem.boot_len (pa_cons (pv 0) pa_nil)) (pv 1) (nomark _))
        (pe_one (pe_callB (cr_all rfl) (by rfl) T.all (by decide +kernel) (pa_cons (pe_lc (own := [("n", 2)]) (g := gName 2) (tt := tYes) rfl scIsTup.nd (pi_tup (pv 0))
            (blkOk_by (own := [("n", 2)]) (N := ["thing", "many", "n"]) (sc := defScope sIsTup) (by decide +kernel)) (fun _ _ _ _ _ => pg_name (i := 2) scIsTup.nd rfl (Or.inl rfl)) (fun _ _ _ _ _ => pts_nil)
            (fun _ _ _ _ _ => pe_cl GI hr (by rfl) pass0 (pa_cons (pv 2) pa_nil))) pa_nil)))))), ?_⟩
    obtain ⟨t, ty, _, _, k3⟩ := ty_of (K := K) hd
    refine ⟨_, rfl, _, _, _, _, _, rfl, .ty _, ty, kit_ty k3, _, rfl, ite2 (fun h1 => ?_) (fun h1 => ?_)⟩
    · cases hd with
      | @tup a xs ds ea hdd =>
        refine ⟨_, rfl, a, xs, rfl, .inr (SqT.of ea), _, rfl, rfl, _, rfl, ite2 (fun h2 => ?_) (fun h2 => ?_)⟩
        · have h2 : ((xs.length : Nat) : Int) = n := V.int.inj (of_decide_eq_true h2)
          refine ⟨_, rfl, a, rfl, ⟨_, SqT.of ea⟩, fun p np => lc_tup (xs := xs) (fun i H' => Evl.Ex H H' ∧ H' p = some (.lst (((ds.take i).map isInt).map V.bl))) ⟨Evl.Ex.new np, upd_same⟩ (fun i H' _ h => SqT.of (h.1 _ _ ea)) (fun i x H' hx h => ?_) (fun H' h => ?_)⟩
          · obtain ⟨e, he, hde⟩ := hdd.at hx
            refine ⟨rfl, yes_go ?_⟩
            refine ⟨_, rfl, x, G, e, rfl, Dd.keep (ex_keep h.1) hde, _, h.2, ?_, h.1.mut np, ?_⟩
            · have hb : ds.length ≤ 7000 := by
                have b1 := hz
                have b2 := bulk_len ds
                simp only [PyData.bulk] at b1
                omega
              rw [List.length_map, List.length_map, List.length_take]
              exact Nat.lt_of_le_of_lt (Nat.min_le_right _ _) (Nat.lt_of_le_of_lt hb (by decide))
            · rw [upd_same, List.take_add_one, he, List.map_append, List.map_append] <;> rfl
          · refine ⟨p, _, rfl, SqL.of h.2, ?_⟩
            have e1 : (((ds.take xs.length).map isInt).all id) = isInts n (.tuple ds) := by
              have hl := hdd.length
              rw [isInts_tup, hl, List.take_length, List.all_map, show ((ds.length : Int) == n) = true by rw [← h2, hl]; exact beq_self_eq_true _]
              rfl
            rw [e1]
            exact q H' h.1
        · have h2 : ¬ ((xs.length : Nat) : Int) = n := fun z => h2 (by rw [z]; exact decide_eq_true rfl)
          have e1 : isInts n (.tuple ds) = false := by
            rw [isInts_tup, show ((ds.length : Int) == n) = false by rw [← hdd.length]; exact beq_eq_false_iff_ne.mpr h2] <;> rfl
          rw [← e1]
          exact q H (Evl.Ex.refl H)
      | _ => exact absurd h1 Bool.false_ne_true
    · have e1 : isInts n e = false := by cases e <;> first | rfl | exact absurd rfl h1
      rw [← e1]
      exact q H (Evl.Ex.refl H)
theorem fk_isTup (S : At K mg "is_tuple_of_integers" sIsTup) (T : Blt mg) (GI : Fk P w K mg base CX0 1 "is_integer" ["thing"] spIsInt) : Fk P w K mg base CX0 2 "is_tuple_of_integers" ["thing", "many"] spIsTup :=
  (fk_isTupB S T GI).weak fun vs H Q E h => by
    obtain ⟨v, G, e, n, c, m, rfl, hd, hz, hc, q⟩ := h
    exact ⟨v, G, e, n, rfl, hd, Nat.le_trans hz.bk hc, q⟩
end
end Ey
namespace Ey
open PySem PySem.Spec PyProof.Rows L2
/-! ### a list beside [] -/
section
variable {X : Cx}
def rEqNil (K : PySem.W.Frag) : R2 := fun x y H Q => ∃ (a b : Addr) (xs : List V), x = .ref a ∧ y = .ref b ∧ SqL K H a xs ∧ SqL K H b [] ∧ Q (.bl xs.isEmpty) H
theorem op_eqNil (hu : X.A.units < cLine) : OpR X (compareOp .Eq) (rEqNil X.K) := by
  intro pins s σ H x y v u Q I rx ry h
  obtain ⟨a, b, xs, rfl, rfl, ha, hb, q⟩ := h
  cases rx
  cases ry
  obtain ⟨i1, r1, p1, _⟩ := I.list ha
  obtain ⟨i2, r2, p2, _⟩ := I.list hb
  cases r2
  cases r1 with
  | nil => exact SeqAt.eq_listAt (e := fun _ => true) p1.isList p2.isList rfl hu (fun j h1 => absurd h1 (Nat.not_lt_zero j)) ⟨.bl true, H, I, rfl, q⟩
  | cons _ _ => exact SeqAt.eq_list_lengthsAt p1.isList p2.isList (by simp) hu ⟨.bl false, H, I, rfl, q⟩
end
section
variable {P : Program} {w : World} {K : PySem.W.Frag} {mg : Str → Option Value} {base : Heap}
theorem filt_int {ds : List PyData} : (ds.filter fun d => !isInt d).isEmpty = ds.all isInt := by
  induction ds with
  | nil => rfl
  | cons d ds ih =>
    rw [List.filter_cons, List.all_cons]
    cases isInt d with
    | true => simpa using ih
    | false => rfl
theorem fk_lAre (S : At K mg "_law_are_integers" sLAre) (T : Blt mg) (GI : Fk P w K mg base CX0 1 "_law_is_integer" ["thing"] spIsInt) : Fk P w K mg base CX0 2 "_law_are_integers" ["thing", "many"] spIsTup := by
  obtain ⟨f, fd, F, g⟩ := S.ex
  refine ⟨f, fd, F.ok scLAre (fun vs H Q E h => ?_) (fun cdv A outer s H vs Q E hr h => ?_), F.binds fun _ _ _ _ _ _ us hl => (match us, hl with | [_, _], _ => rfl), g, F.kp, fun_lk F⟩
  · obtain ⟨v, G, e, n, c, m, rfl, _⟩ := h
    rfl
  · obtain ⟨v, G, e, n, c, m, rfl, hd, hz, hc, q⟩ := h
    refine ⟨_, pss_one (ps_ret (pe_and (pe_callB call_isi (by rfl) T.isinst (by decide +kernel) (pa_cons (pv 0) (pa_cons (pe_bltn (v := .ty "tuple") (by rfl) T.tuple (by decide +kernel) rfl) pa_nil)))
      (pe_and (pe_cmpR op_eq (pe_callB call_len_seq (by rfl) T.len PySem.boot_len (pa_cons (pv 0) pa_nil)) (pv 1) (nomark _))
        (pe_one (pe_cmpR (op_eqNil hr.units0) (pe_lc (own := [("x", 2)]) (g := gName 2) rfl scLAre.nd (pi_tup (pv 0))
            (blkOk_by (own := [("x", 2)]) (N := ["thing", "many", "x"]) (sc := defScope sLAre) (by decide +kernel)) (fun _ _ _ _ _ => pg_name (i := 2) scLAre.nd rfl (Or.inl rfl))
            (fun _ _ _ _ _ => pts_one (pt_not (pt_val (pe_cl GI hr (by rfl) pass0 (pa_cons (pv 2) pa_nil)))))
            (fun _ _ _ _ _ => pv 2)) (pe_lst pa_nil) (nomark _)))))), ?_⟩
    obtain ⟨t, ty, _, _, k3⟩ := ty_of (K := K) hd
    refine ⟨_, rfl, _, _, _, _, _, rfl, .ty _, ty, kit_ty k3, _, rfl, ite2 (fun h1 => ?_) (fun h1 => ?_)⟩
    · cases hd with
      | @tup a xs ds ea hdd =>
        refine ⟨_, rfl, a, xs, rfl, .inr (SqT.of ea), _, rfl, rfl, _, rfl, ite2 (fun h2 => ?_) (fun h2 => ?_)⟩
        · have h2 : ((xs.length : Nat) : Int) = n := V.int.inj (of_decide_eq_true h2)
          have hb : ds.length ≤ 7000 := by
            have b1 := hz.bk
            have b2 := bulk_len ds
            simp only [PyData.bulk] at b1
            omega
          refine ⟨_, rfl, a, rfl, ⟨_, SqT.of ea⟩, fun p np => lc_tup (xs := xs) (fun i H' => Evl.Ex H H' ∧ ∃ ys : List V, H' p = some (.lst ys) ∧ ys.length = ((ds.take i).filter fun d => !isInt d).length) ⟨Evl.Ex.new np, [], upd_same, rfl⟩ (fun i H' _ h => SqT.of (h.1 _ _ ea)) (fun i x H' hx h => ?_) (fun H' h => ?_)⟩
          · obtain ⟨e, he, hde⟩ := hdd.at hx
            obtain ⟨x1, ys, ey, hl⟩ := h
            refine ⟨rfl, ?_⟩
            refine ⟨_, rfl, x, G, e, rfl, Dd.keep (ex_keep x1) hde, _, rfl, ite2 (fun hi => ?_) (fun hi => ?_)⟩
            · refine ⟨_, rfl, ys, ey, ?_, x1.mut np, ys ++ [x], upd_same, ?_⟩
              · have := List.length_filter_le (fun d => !isInt d) (ds.take i)
                rw [List.length_take] at this
                exact Nat.lt_of_le_of_lt (show ys.length ≤ 7000 by omega) (by decide)
              · rw [List.take_add_one, he, List.filter_append, List.length_append, List.length_append, hl]
                simp [hi]
            · refine ⟨x1, ys, ey, ?_⟩
              rw [List.take_add_one, he, List.filter_append, List.length_append, hl]
              simp [hi]
          · obtain ⟨x1, ys, ey, hl⟩ := h
            refine ⟨Nat.zero_le _, fun p2 np2 => ⟨p, p2, ys, rfl, rfl, SqL.of (by rw [upd_ne (ne_of_none ey np2)]; exact ey), SqL.of upd_same, ?_⟩⟩
            have e1 : ys.isEmpty = isInts n (.tuple ds) := by
              rw [hdd.length, List.take_length] at hl
              rw [isInts_tup, show ((ds.length : Int) == n) = true by rw [← h2, hdd.length]; exact beq_self_eq_true _, ← filt_int]
              rw [Bool.true_and]
              cases ys with
              | nil =>
                have := List.eq_nil_of_length_eq_zero hl.symm
                rw [this] <;> rfl
              | cons y ys =>
                cases hf : ds.filter fun d => !isInt d with
                | nil => rw [hf] at hl; cases hl
                | cons _ _ => rfl
            rw [e1]
            exact q _ (x1.trans (Evl.Ex.new np2))
        · have h2 : ¬ ((xs.length : Nat) : Int) = n := fun z => h2 (by rw [z]; exact decide_eq_true rfl)
          have e1 : isInts n (.tuple ds) = false := by
            rw [isInts_tup, show ((ds.length : Int) == n) = false by rw [← hdd.length]; exact beq_eq_false_iff_ne.mpr h2] <;> rfl
          rw [← e1]
          exact q H (Evl.Ex.refl H)
      | _ => exact absurd h1 Bool.false_ne_true
    · have e1 : isInts n e = false := by cases e <;> first | rfl | exact absurd rfl h1
      rw [← e1]
      exact q H (Evl.Ex.refl H)
end
end Ey
namespace Ey
open PySem PySem.Spec PyProof.Rows L2
/-! ### common divisors -/
abbrev sDiv : Stmt := topS 18
abbrev sLeast : Stmt := topS 19
theorem scDiv : FnScope ["row", "found", "x", "one", "other"] ["row"] (defScope sDiv) := ⟨rfl, rfl, rfl, by decide +kernel, rfl, by decide +kernel, by decide +kernel⟩
theorem scLeast : FnScope ["row", "divisor", "x"] ["row"] (defScope sLeast) := ⟨rfl, rfl, rfl, by decide +kernel, rfl, by decide +kernel, by decide +kernel⟩
/-- the greatest common divisor of a row -/
def gl (ns : List Int) : Nat := ns.foldl (fun g x => Nat.gcd x.natAbs g) 0
theorem gl_take {ns : List Int} {i : Nat} {x : Int} (h : ns[i]? = some x) : gl (ns.take (i + 1)) = Nat.gcd x.natAbs (gl (ns.take i)) := by
  unfold gl
  rw [List.take_add_one, h, List.foldl_append] <;> rfl
theorem gcd_step {p q : Int} (hp : 0 ≤ p) (hq : 0 < q) : Nat.gcd q.natAbs (p % q).natAbs = Nat.gcd p.natAbs q.natAbs := by
  rw [Int.natAbs_emod_of_nonneg hp, Nat.gcd_comm, Nat.gcd_comm p.natAbs]
  exact (Nat.gcd_rec q.natAbs p.natAbs).symm
section
variable {P : Program} {w : World} {K : PySem.W.Frag} {mg : Str → Option Value} {base : Heap}
theorem ints_at {ns : List Int} {i : Nat} {x : V} (h : (ns.map V.int)[i]? = some x) : ∃ y, ns[i]? = some y ∧ x = .int y := by
  rw [List.getElem?_map] at h
  cases e : ns[i]? with
  | none => rw [e] at h; cases h
  | some y => rw [e] at h; cases h; exact ⟨y, rfl, rfl⟩
def spDiv (K : PySem.W.Frag) : Sp := fun vs H Q _ => ∃ (a : Addr) (ns : List Int), vs = [.ref a] ∧ SqT K H a (ns.map V.int) ∧ Q (.int (gl ns : Nat)) H
theorem fk_div (S : At K mg "_law_divisor" sDiv) (T : Blt mg) : Fk P w K mg base CX0 1 "_law_divisor" ["row"] (spDiv K) := by
  obtain ⟨f, fd, F, g⟩ := S.ex
  refine ⟨f, fd, F.ok scDiv (fun vs H Q E h => ?_) (fun cdv A outer s H vs Q E hr h => ?_), F.binds fun _ _ _ _ _ _ us hl => (match us, hl with | [_], _ => rfl), g, F.kp, fun_lk F⟩
  · obtain ⟨a, ns, rfl, _⟩ := h
    rfl
  · obtain ⟨a, ns, rfl, ea, q⟩ := h
    refine ⟨_, pss_cons (ps_set (i := 1) scDiv.nd rfl (.inl rfl) pe_int)
      (pss_cons (ps_for PassesOwn.never rfl (pi_tup (pv 0)) (pg_name (i := 2) scDiv.nd rfl (.inl rfl))
        (pss_cons (ps_par (i := 3) (j := 4) (by rfl) scDiv.nd rfl rfl (by decide) rfl rfl (pa_cons (pe_callB call_abs (by rfl) T.abs (by decide +kernel) (pa_cons (pv 2) pa_nil)) (pa_cons (pv 1) pa_nil)) (by rfl))
        (pss_cons (ps_while PassesOwn.never (pt_cmpR op_ne (pv 4) pe_int (nomark _)) (pss_one (ps_par (i := 3) (j := 4) (by rfl) scDiv.nd rfl rfl (by decide) rfl rfl
          (pa_cons (pv 4) (pa_cons (pe_op op_mod (pe_callTy call_int1 (by rfl) T.int (by decide +kernel) (pa_cons (pv 3) pa_nil)) (pv 4)) pa_nil)) (by rfl))))
        (pss_one (ps_set (i := 1) scDiv.nd rfl (.inl rfl) (pv 3))))))
      (pss_one (ps_ret (pv 1)))), ?_⟩
    refine ⟨_, rfl, a, rfl, ⟨_, ea⟩, for_tup (xs := ns.map V.int) (fun i σ H' => H' = H ∧ ∃ x y z, σ = [some (.ref a), some (.int (gl (ns.take i) : Nat)), x, y, z]) ⟨rfl, none, none, none, rfl⟩ (fun i σ H' _ h => ?_) (fun i x σ H' hx h => ?_) (fun σ H' h => ?_)⟩
    · obtain ⟨rfl, _⟩ := h
      exact ea
    · obtain ⟨rfl, u, y, z, rfl⟩ := h
      obtain ⟨n, hn, rfl⟩ := ints_at hx
      refine ⟨.int n, rfl, n, rfl, .int (gl (ns.take i) : Nat), rfl, _, _, rfl, ?_⟩
      refine ⟨fun m σ H1 => H1 = H' ∧ ∃ p q : Int, σ = [some (.ref a), some (.int (gl (ns.take i) : Nat)), some (.int n), some (.int p), some (.int q)] ∧ 0 ≤ p ∧ 0 ≤ q ∧ m = q.toNat ∧ Nat.gcd p.natAbs q.natAbs = gl (ns.take (i + 1)),
        ⟨_, rfl, _, _, rfl, ?_, by omega, rfl, ?_⟩, ?_⟩
      · split <;> omega
      · rw [gl_take hn]
        congr 1
        split <;> omega
      · rintro m σ H1 ⟨rfl, p, q', rfl, hp, hq, rfl, hg⟩
        refine ⟨_, rfl, rfl, _, rfl, ite2 (fun hne => ?_) (fun hne => ?_)⟩
        · have hne : q' ≠ 0 := fun z => by rw [z] at hne; exact absurd hne (by decide)
          have hq0 : 0 < q' := by omega
          refine ⟨fun σ' H' => H' = H1 ∧ σ' = [some (.ref a), some (.int (gl (ns.take i) : Nat)), some (.int n), some (.int q'), some (.int (p % q'))], ?_, ?_⟩
          · rintro σ' H2 ⟨rfl, rfl⟩
            have h1 := Int.emod_nonneg p hne
            have h2 := Int.emod_lt_of_pos p hq0
            exact ⟨_, by omega, rfl, _, _, rfl, by omega, h1, rfl, by rw [gcd_step hp hq0]; exact hg⟩
          · exact ⟨_, rfl, _, rfl, .inl ⟨_, rfl, _, rfl, _, _, rfl, rfl, hq0, _, _, rfl, rfl, rfl⟩⟩
        · have hne : q' = 0 := by
            cases Decidable.em (q' = 0) with
            | inl h => exact h
            | inr h => exact absurd (show (!decide (V.int q' = V.int 0)) = true by rw [decide_eq_false (fun z => h (V.int.inj z))]; rfl) hne
          subst hne
          have e1 : p = ((gl (ns.take (i + 1)) : Nat) : Int) := by
            rw [← hg]
            simp
            omega
          refine ⟨_, rfl, ?_⟩
          refine ⟨rfl, some (.int n), some (.int p), some (.int 0), ?_⟩
          rw [← e1] <;> rfl
    · obtain ⟨rfl, x, y, z, rfl⟩ := h
      rw [List.length_map, List.take_length]
      exact ⟨_, rfl, q⟩
theorem gl_dvd {ns : List Int} : ∀ x ∈ ns, gl ns ∣ x.natAbs := by
  have go : ∀ (ns : List Int) (g : Nat), (ns.foldl (fun g x => Nat.gcd x.natAbs g) g) ∣ g ∧ ∀ x ∈ ns, (ns.foldl (fun g x => Nat.gcd x.natAbs g) g) ∣ x.natAbs := by
    intro ns
    induction ns with
    | nil => exact fun g => ⟨Nat.dvd_refl _, fun _ h => nomatch h⟩
    | cons y ns ih =>
      intro g
      obtain ⟨h1, h2⟩ := ih (Nat.gcd y.natAbs g)
      refine ⟨Nat.dvd_trans h1 (Nat.gcd_dvd_right _ _), fun x hx => ?_⟩
      rcases List.mem_cons.mp hx with rfl | hx
      · exact Nat.dvd_trans h1 (Nat.gcd_dvd_left _ _)
      · exact h2 x hx
  exact (go ns 0).2
theorem gl_pos {ns : List Int} (h : ns ≠ List.replicate ns.length 0) : ∃ x ∈ ns, 0 < gl ns ∧ gl ns ≤ x.natAbs := by
  have : ∃ x ∈ ns, x ≠ 0 := by
    refine Decidable.byContradiction fun hn => h (List.eq_replicate_iff.mpr ⟨rfl, fun x hx => ?_⟩)
    exact Decidable.byContradiction fun hx0 => hn ⟨x, hx, hx0⟩
  obtain ⟨x, hx, h0⟩ := this
  have hd := gl_dvd x hx
  have hp : 0 < x.natAbs := Int.natAbs_pos.mpr h0
  exact ⟨x, hx, Nat.pos_of_dvd_of_pos hd hp, Nat.le_of_dvd hp hd⟩
/-- the row in lowest terms -/
def lowest (ns : List Int) : List Int := ns.map fun x => x / (gl ns : Nat)
def spLeast (K : PySem.W.Frag) : Sp := fun vs H Q _ => ∃ (a : Addr) (ns : List Int), vs = [.ref a] ∧ SqT K H a (ns.map V.int) ∧ ns.length ≤ 100 ∧ 0 < gl ns ∧ gl ns < 2 ^ 2100 ∧
  ∀ p H', H p = none → Evl.Ex H H' → H' p = some (.tup ((lowest ns).map V.int)) → Q (.ref p) H'
theorem fk_least (S : At K mg "_law_least" sLeast) (T : Blt mg) (GD : Fk P w K mg base CX0 1 "_law_divisor" ["row"] (spDiv K)) : Fk P w K mg base CX0 2 "_law_least" ["row"] (spLeast K) := by
  obtain ⟨f, fd, F, g⟩ := S.ex
  refine ⟨f, fd, F.ok scLeast (fun vs H Q E h => ?_) (fun cdv A outer s H vs Q E hr h => ?_), F.binds fun _ _ _ _ _ _ us hl => (match us, hl with | [_], _ => rfl), g, F.kp, fun_lk F⟩
  · obtain ⟨a, ns, rfl, _⟩ := h
    rfl
  · obtain ⟨a, ns, rfl, ea, hl, h0, h1, q⟩ := h
    refine ⟨_, pss_cons (ps_set (i := 1) scLeast.nd rfl (.inr rfl) (pe_cl GD hr (by rfl) pass0 (pa_cons (pv 0) pa_nil)))
      (pss_one (ps_ret (pe_callTy call_tuple_of (by rfl) T.tuple (by decide +kernel) (pa_cons (pe_lc (own := [("x", 2)]) (g := gName 2) (tt := tYes) rfl scLeast.nd (pi_tup (pv 0))
            (blkOk_by (own := [("x", 2)]) (N := ["row", "divisor", "x"]) (sc := defScope sLeast) (by decide +kernel)) (fun _ _ _ _ _ => pg_name (i := 2) scLeast.nd rfl (Or.inl rfl)) (fun _ _ _ _ _ => pts_nil)
            (fun _ _ _ _ _ => pe_op op_fdivW (pv 2) (pv 1))) pa_nil)))), ?_⟩
    refine ⟨_, rfl, a, ns, rfl, ea, ?_⟩
    have hw : CDivW 0 ((gl ns : Nat) : Int) := wide_div (by omega) (show (((gl ns : Nat) : Int)).natAbs < 2 ^ 2100 by omega) (by decide) (by decide)
    refine ⟨_, rfl, a, rfl, ⟨_, ea⟩, fun p np => lc_tup (xs := ns.map V.int) (fun i H' => Evl.Ex H H' ∧ H' p = some (.lst (((lowest ns).take i).map V.int))) ⟨Evl.Ex.new np, upd_same⟩ (fun i H' _ h => Evl.ex_t h.1 ea) (fun i x H' hx h => ?_) (fun H' h => ?_)⟩
    · obtain ⟨n, hn, rfl⟩ := ints_at hx
      refine ⟨rfl, yes_go ?_⟩
      refine ⟨_, rfl, _, rfl, n, _, rfl, rfl, hw, _, h.2, ?_, h.1.mut np, ?_⟩
      · rw [List.length_map, List.length_take]
        exact Nat.lt_of_le_of_lt (Nat.min_le_right _ _) (by unfold lowest; rw [List.length_map]; exact small1000 (by omega))
      · have e1 : (lowest ns)[i]? = some (n / ((gl ns : Nat) : Int)) := by
          unfold lowest
          rw [List.getElem?_map, hn] <;> rfl
        rw [upd_same, List.take_add_one, e1, List.map_append] <;> rfl
    · have e1 : (lowest ns).take (ns.map V.int).length = lowest ns := List.take_of_length_le (by unfold lowest; rw [List.length_map, List.length_map]; exact Nat.le_refl _)
      rw [e1] at h
      refine ⟨p, _, rfl, .inl ⟨SqL.of h.2, fun t nt => ?_⟩⟩
      exact q t _ (Evl.fresh_back h.1 nt) (h.1.trans (Evl.Ex.new nt)) upd_same
end
end Ey
namespace Ey
open PySem PySem.Spec PyProof.Rows L2
/-! ### places, lines, directions: the program's and the law's -/
abbrev sIsPlace : Stmt := topS 8
theorem scIsPlace : FnScope ["thing"] ["thing"] (defScope sIsPlace) := ⟨rfl, rfl, rfl, by decide +kernel, rfl, by decide +kernel, by decide +kernel⟩
def isPlace : PyData → Bool
  | .tuple [.int x, .int y, .int w] => decide (0 < w) && decide (Nat.gcd (Nat.gcd x.natAbs y.natAbs) w.natAbs = 1)
  | _ => false
theorem isInts3 {e : PyData} (h : isInts 3 e = true) : ∃ x y w : Int, e = .tuple [.int x, .int y, .int w] := by
  cases e with
  | tuple ds =>
    rw [isInts_tup, Bool.and_eq_true] at h
    have hl : (ds.length : Int) = 3 := eq_of_beq h.1
    have ha := h.2
    match ds, hl, ha with
    | [a, b, c], _, ha =>
      rw [List.all_cons, List.all_cons, List.all_cons, Bool.and_eq_true, Bool.and_eq_true, Bool.and_eq_true] at ha
      cases a with
      | int x =>
        cases b with
        | int y =>
          cases c with
          | int z => exact ⟨x, y, z, rfl⟩
          | _ => exact absurd ha.2.2.1 Bool.false_ne_true
        | _ => exact absurd ha.2.1 Bool.false_ne_true
      | _ => exact absurd ha.1 Bool.false_ne_true
  | _ => exact absurd h Bool.false_ne_true
theorem isInts2 {e : PyData} (h : isInts 2 e = true) : ∃ x y : Int, e = .tuple [.int x, .int y] := by
  cases e with
  | tuple ds =>
    rw [isInts_tup, Bool.and_eq_true] at h
    have hl : (ds.length : Int) = 2 := eq_of_beq h.1
    have ha := h.2
    match ds, hl, ha with
    | [a, b], _, ha =>
      rw [List.all_cons, List.all_cons, Bool.and_eq_true, Bool.and_eq_true] at ha
      cases a with
      | int x =>
        cases b with
        | int y => exact ⟨x, y, rfl⟩
        | _ => exact absurd ha.2.1 Bool.false_ne_true
      | _ => exact absurd ha.1 Bool.false_ne_true
  | _ => exact absurd h Bool.false_ne_true
theorem isPlace_no {e : PyData} (h : isInts 3 e = false) : isPlace e = false := by
  unfold isPlace
  split
  · exact absurd (show true = false from h) (by decide)
  · rfl
/-- a tuple of three integers, where it stands -/
theorem dd_tup3 {F : Addr → Prop} {H : Hp} {v : V} {x y z : Int} (h : Dd F H v (.tuple [.int x, .int y, .int z])) : ∃ a, v = .ref a ∧ H a = some (.tup ([x, y, z].map V.int)) := by
  cases h with
  | tup e r =>
    cases r with
    | cons a r =>
      cases r with
      | cons b r =>
        cases r with
        | cons c r =>
          cases r
          cases a
          cases b
          cases c
          exact ⟨_, rfl, e⟩
theorem dd_tup2 {F : Addr → Prop} {H : Hp} {v : V} {x y : Int} (h : Dd F H v (.tuple [.int x, .int y])) : ∃ a, v = .ref a ∧ H a = some (.tup ([x, y].map V.int)) := by
  cases h with
  | tup e r =>
    cases r with
    | cons a r =>
      cases r with
      | cons b r =>
        cases r
        cases a
        cases b
        exact ⟨_, rfl, e⟩
theorem gl3 (x y z : Int) : gl [x, y, z] = Nat.gcd (Nat.gcd x.natAbs y.natAbs) z.natAbs := by
  show Nat.gcd z.natAbs (Nat.gcd y.natAbs (Nat.gcd x.natAbs 0)) = _
  rw [Nat.gcd_zero_right, Nat.gcd_comm y.natAbs, Nat.gcd_comm]
theorem gl2 (x y : Int) : gl [x, y] = Nat.gcd x.natAbs y.natAbs := by
  show Nat.gcd y.natAbs (Nat.gcd x.natAbs 0) = _
  rw [Nat.gcd_zero_right, Nat.gcd_comm]
theorem dec_one (n : Nat) : decide (V.int ((n : Nat) : Int) = V.int 1) = decide (n = 1) := by
  by_cases h : n = 1
  · subst h; rfl
  · rw [decide_eq_false h, decide_eq_false]
    intro z
    have := V.int.inj z
    omega
section
variable {P : Program} {w : World} {K : PySem.W.Frag} {mg : Str → Option Value} {base : Heap}
/-- a look at any value -/
def spIs (p : PyData → Bool) : Sp := fun vs H Q _ => ∃ (v : V) (F : Addr → Prop) (e : PyData) (c m : Nat), vs = [v] ∧ Dd F H v e ∧ Sz c m e ∧ c ≤ 7000 ∧ ∀ H', Evl.Ex H H' → Q (.bl (p e)) H'
theorem fk_isPlace (S : At K mg "is_place" sIsPlace) (gg : mg "gcd" = some (.builtin "math.gcd")) (GT : Fk P w K mg base CX0 2 "is_tuple_of_integers" ["thing", "many"] spIsTup) : Fk P w K mg base CX0 3 "is_place" ["thing"] (spIs isPlace) := by
  obtain ⟨f, fd, F, g⟩ := S.ex
  refine ⟨f, fd, F.ok scIsPlace (fun vs H Q E h => ?_) (fun cdv A outer s H vs Q E hr h => ?_), F.binds fun _ _ _ _ _ _ us hl => (match us, hl with | [_], _ => rfl), g, F.kp, fun_lk F⟩
  · obtain ⟨v, G, e, c, m, rfl, _⟩ := h
    rfl
  · obtain ⟨v, G, e, c, m, rfl, hd, hz, hc, q⟩ := h
    refine ⟨_, pss_one (ps_ret (pe_and (pe_cl GT hr (by rfl) pass0 (pa_cons (pv 0) (pa_cons pe_int pa_nil)))
      (pe_and (pe_cmpR op_gt (pe_ix ix_tup (pv 0) pe_int (fun _ _ => rfl)) pe_int (nomark _))
        (pe_one (pe_cmpR op_eq (pe_callBfun cr_gcd3 (by rfl) gg (pa_cons (pe_ix ix_tup (pv 0) pe_int (fun _ _ => rfl)) (pa_cons (pe_ix ix_tup (pv 0) pe_int (fun _ _ => rfl)) (pa_cons (pe_ix ix_tup (pv 0) pe_int (fun _ _ => rfl)) pa_nil)))) pe_int (nomark _)))))), ?_⟩
    refine ⟨_, rfl, v, G, e, 3, c, m, rfl, hd, hz, hc, fun H' x => ⟨_, rfl, ite2 (fun h1 => ?_) (fun h1 => ?_)⟩⟩
    · obtain ⟨x1, y1, w1, rfl⟩ := isInts3 h1
      obtain ⟨a, rfl, ea⟩ := dd_tup3 (Dd.keep (ex_keep x) hd)
      have at0 : atI ([x1, y1, w1].map V.int) 0 = some (.int x1) := atI_nat (j := 0) rfl
      have at1 : atI ([x1, y1, w1].map V.int) 1 = some (.int y1) := atI_nat (j := 1) rfl
      have at2 : atI ([x1, y1, w1].map V.int) 2 = some (.int w1) := atI_nat (j := 2) rfl
      refine ⟨_, rfl, a, _, 2, _, rfl, rfl, SqT.of ea, at2, w1, 0, rfl, rfl, _, rfl, ite2 (fun h2 => ?_) (fun h2 => ?_)⟩
      · refine ⟨_, rfl, a, _, 0, _, rfl, rfl, SqT.of ea, at0, _, rfl, a, _, 1, _, rfl, rfl, SqT.of ea, at1, _, rfl, a, _, 2, _, rfl, rfl, SqT.of ea, at2, x1, y1, w1, rfl, rfl, ?_⟩
        rw [dec_one]
        have e1 : isPlace (.tuple [.int x1, .int y1, .int w1]) = decide (Nat.gcd (Nat.gcd x1.natAbs y1.natAbs) w1.natAbs = 1) := by
          show (decide (0 < w1) && _) = _
          rw [h2, Bool.true_and]
        rw [← e1]
        exact q H' x
      · have e1 : isPlace (.tuple [.int x1, .int y1, .int w1]) = false := by
          show (decide (0 < w1) && _) = _
          rw [show decide (0 < w1) = false by simpa using h2, Bool.false_and]
        rw [← e1]
        exact q H' x
    · have e1 := isPlace_no (e := e) (by simpa using h1)
      rw [← e1]
      exact q H' x
end
end Ey
namespace Ey
open PySem PySem.Spec PyProof.Rows L2
/-! ### lowest terms: the program's and the law's places -/
abbrev sRed : Stmt := topS 10
abbrev sLPlace : Stmt := topS 20
theorem scRed : FnScope ["triple", "a", "b", "c", "divisor"] ["triple"] (defScope sRed) := ⟨rfl, rfl, rfl, by decide +kernel, rfl, by decide +kernel, by decide +kernel⟩
theorem scLPlace : FnScope ["x", "y", "w"] ["x", "y", "w"] (defScope sLPlace) := ⟨rfl, rfl, rfl, by decide +kernel, rfl, by decide +kernel, by decide +kernel⟩
theorem gl_le {ns : List Int} {x : Int} (hx : x ∈ ns) (h0 : x ≠ 0) : 0 < gl ns ∧ gl ns ≤ x.natAbs := by
  have hd := gl_dvd x hx
  have hp : 0 < x.natAbs := Int.natAbs_pos.mpr h0
  exact ⟨Nat.pos_of_dvd_of_pos hd hp, Nat.le_of_dvd hp hd⟩
theorem low3 (x y z : Int) : lowest [x, y, z] = [x / (gl [x, y, z] : Nat), y / (gl [x, y, z] : Nat), z / (gl [x, y, z] : Nat)] := rfl
theorem gl_neg3 (x y z : Int) : gl [-x, -y, -z] = gl [x, y, z] := by rw [gl3, gl3, Int.natAbs_neg, Int.natAbs_neg, Int.natAbs_neg]
theorem dvd_gl {ns : List Int} {x : Int} (h : x ∈ ns) : ((gl ns : Nat) : Int) ∣ x := Int.ofNat_dvd_left.mpr (gl_dvd x h)
theorem low_neg3 (x y z : Int) : lowest [-x, -y, -z] = [-(x / (gl [x, y, z] : Nat)), -(y / (gl [x, y, z] : Nat)), -(z / (gl [x, y, z] : Nat))] := by
  rw [low3, gl_neg3, Int.neg_ediv_of_dvd (dvd_gl (by simp)), Int.neg_ediv_of_dvd (dvd_gl (by simp)), Int.neg_ediv_of_dvd (dvd_gl (by simp))]
/-- the place with the coordinates x / w and y / w -/
def placeOf (x y w : Int) : List Int := lowest (if 0 < w then [x, y, w] else [-x, -y, -w])
theorem placeOf_pos {x y w : Int} (h : 0 < w) : placeOf x y w = lowest [x, y, w] := by unfold placeOf; rw [if_pos h]
theorem placeOf_neg {x y w : Int} (h : ¬ 0 < w) : placeOf x y w = lowest [-x, -y, -w] := by unfold placeOf; rw [if_neg h]
theorem sign_div {x y w : Int} (h0 : w ≠ 0) : (w / (gl [x, y, w] : Nat) < 0) = (w < 0) := by
  obtain ⟨g0, g1⟩ := gl_le (ns := [x, y, w]) (x := w) (by simp) h0
  have hd : ((gl [x, y, w] : Nat) : Int) ∣ w := dvd_gl (by simp)
  obtain ⟨k, hk⟩ := hd
  have hg : (0 : Int) < ((gl [x, y, w] : Nat) : Int) := by omega
  generalize ((gl [x, y, w] : Nat) : Int) = g at hk hg
  subst hk
  rw [Int.mul_ediv_cancel_left _ (by omega)]
  refine propext ⟨fun h => Int.mul_neg_of_pos_of_neg hg h, fun h => ?_⟩
  exact Decidable.byContradiction fun z => absurd (Int.mul_nonneg (Int.le_of_lt hg) (by omega : 0 ≤ k)) (by omega)
theorem len3 {n : Nat} {x y z : Int} (h : n = 3) : n = ([x, y, z].map V.int).length := h
section
variable {P : Program} {w : World} {K : PySem.W.Frag} {mg : Str → Option Value} {base : Heap}
def spRed : Sp := fun vs H Q _ => ∃ (t : Addr) (x y z : Int), vs = [.ref t] ∧ H t = some (.tup ([x, y, z].map V.int)) ∧ 0 < gl [x, y, z] ∧ gl [x, y, z] < 2 ^ 2100 ∧
  ∀ p H', H p = none → Evl.Ex H H' → H' p = some (.tup ((lowest [x, y, z]).map V.int)) → Q (.ref p) H'
theorem fk_red (S : At K mg "reduced" sRed) (gg : mg "gcd" = some (.builtin "math.gcd")) : Fk P w K mg base CX0 1 "reduced" ["triple"] spRed := by
  obtain ⟨f, fd, F, g⟩ := S.ex
  refine ⟨f, fd, F.ok scRed (fun vs H Q E h => ?_) (fun cdv A outer s H vs Q E hr h => ?_), F.binds fun _ _ _ _ _ _ us hl => (match us, hl with | [_], _ => rfl), g, F.kp, fun_lk F⟩
  · obtain ⟨t, x, y, z, rfl, _⟩ := h
    rfl
  · obtain ⟨t, x, y, z, rfl, et, g0, g1, q⟩ := h
    refine ⟨_, pss_cons (ps_asg (pv 0) (pg_tup (by rfl) (pgs_cons (pg_name (i := 1) scRed.nd rfl (.inl rfl)) (pgs_cons (pg_name (i := 2) scRed.nd rfl (.inl rfl)) (pgs_cons (pg_name (i := 3) scRed.nd rfl (.inl rfl)) pgs_nil)))))
      (pss_cons (ps_set (i := 4) scRed.nd rfl (.inl rfl) (pe_callBfun cr_gcd3 (by rfl) gg (pa_cons (pv 1) (pa_cons (pv 2) (pa_cons (pv 3) pa_nil)))))
      (pss_one (ps_ret (pe_tup (pa_cons (pe_op op_fdivW (pv 1) (pv 4)) (pa_cons (pe_op op_fdivW (pv 2) (pv 4)) (pa_cons (pe_op op_fdivW (pv 3) (pv 4)) pa_nil))))))), ?_⟩
    refine ⟨_, rfl, t, _, rfl, SqT.of et, rfl, _, _, rfl, _, _, rfl, _, _, rfl, rfl, _, rfl, _, rfl, _, rfl, x, y, z, rfl, ?_⟩
    rw [← gl3]
    have hw : CDivW 0 ((gl [x, y, z] : Nat) : Int) := wide_div (by omega) (show (((gl [x, y, z] : Nat) : Int)).natAbs < 2 ^ 2100 by omega) (by decide) (by decide)
    refine ⟨_, rfl, _, rfl, x, _, rfl, rfl, hw, _, rfl, _, rfl, y, _, rfl, rfl, hw, _, rfl, _, rfl, z, _, rfl, rfl, hw, by show 3 ≤ sizeLine; decide, fun p np => ?_⟩
    exact q p _ np (Evl.Ex.new np) upd_same
def spLPlace : Sp := fun vs H Q _ => ∃ (x y w : Int), vs = [.int x, .int y, .int w] ∧ w ≠ 0 ∧ w.natAbs < 2 ^ 2100 ∧
  ∀ p H', H p = none → Evl.Ex H H' → H' p = some (.tup ((placeOf x y w).map V.int)) → Q (.ref p) H'
theorem fk_lPlace (S : At K mg "_law_place" sLPlace) (GL : Fk P w K mg base CX0 2 "_law_least" ["row"] (spLeast K)) : Fk P w K mg base CX0 3 "_law_place" ["x", "y", "w"] spLPlace := by
  obtain ⟨f, fd, F, g⟩ := S.ex
  refine ⟨f, fd, F.ok scLPlace (fun vs H Q E h => ?_) (fun cdv A outer s H vs Q E hr h => ?_), F.binds fun _ _ _ _ _ _ us hl => (match us, hl with | [_, _, _], _ => rfl), g, F.kp, fun_lk F⟩
  · obtain ⟨x, y, z, rfl, _⟩ := h
    rfl
  · obtain ⟨x, y, z, rfl, h0, h1, q⟩ := h
    refine ⟨_, pss_one (ps_ret (pe_cl GL hr (by rfl) pass0 (pa_cons (pe_ifExp (pt_cmpR op_gt (pv 2) pe_int (nomark _)) (pe_tup (pa_cons (pv 0) (pa_cons (pv 1) (pa_cons (pv 2) pa_nil)))) (pe_tup (pa_cons (pe_un un_neg (pv 0)) (pa_cons (pe_un un_neg (pv 1)) (pa_cons (pe_un un_neg (pv 2)) pa_nil))))) pa_nil))), ?_⟩
    have fin : ∀ (a b c : Int) (H1 : Hp) (p : Addr), [a, b, c] = (if 0 < z then [x, y, z] else [-x, -y, -z]) → c ≠ 0 → c.natAbs = z.natAbs → H1 p = none → Evl.Ex H H1 → spLeast K [.ref p] (upd H1 p (.tup ([a, b, c].map V.int))) Q E :=
      fun a b c H1 p e0 hc hn np x1 => by
        obtain ⟨g0, g1⟩ := gl_le (ns := [a, b, c]) (x := c) (by simp) hc
        refine ⟨p, [a, b, c], rfl, SqT.of upd_same, (by show 3 ≤ 100; decide), g0, by omega, fun p2 H2 n2 x2 e2 => ?_⟩
        refine q p2 H2 (Evl.fresh_back (x1.trans (Evl.Ex.new np)) n2) ((x1.trans (Evl.Ex.new np)).trans x2) ?_
        rw [show placeOf x y z = lowest [a, b, c] by unfold placeOf; rw [e0]]
        exact e2
    refine ⟨_, rfl, z, 0, rfl, rfl, _, rfl, ite2 (fun hz => ?_) (fun hz => ?_)⟩
    · have hz : 0 < z := of_decide_eq_true hz
      refine ⟨_, rfl, _, rfl, _, rfl, by show 3 ≤ sizeLine; decide, fun p np => ?_⟩
      exact fin x y z H p (by rw [if_pos hz]) h0 rfl np (Evl.Ex.refl H)
    · have hz : ¬ 0 < z := fun h => hz (decide_eq_true h)
      refine ⟨_, rfl, x, rfl, _, rfl, y, rfl, _, rfl, z, rfl, by show 3 ≤ sizeLine; decide, fun p np => ?_⟩
      exact fin (-x) (-y) (-z) H p (by rw [if_neg hz]) (by omega) (by omega) np (Evl.Ex.refl H)
end
end Ey
namespace Ey
open PySem PySem.Spec PyProof.Rows L2
/-! ### place(x, y, w) -/
abbrev sPlace : Stmt := topS 9
theorem scPlace : FnScope ["x", "y", "w", "thing"] ["x", "y", "w"] (defScope sPlace) := ⟨rfl, rfl, rfl, by decide +kernel, rfl, by decide +kernel, by decide +kernel⟩
/-- coordinates that are such -/
def Xyw (ex ey ew : PyData) : Prop := ∃ x y w : Int, ex = .int x ∧ ey = .int y ∧ ew = .int w ∧ w ≠ 0
def spPlace (C : Addr) : Sp := fun vs H Q E => ∃ (vx vy vw : V) (F : Addr → Prop) (ex ey ew : PyData), vs = [vx, vy, vw] ∧ Dd F H vx ex ∧ Dd F H vy ey ∧ Dd F H vw ew ∧ ex.bulk ≤ 2000 ∧ ey.bulk ≤ 2000 ∧ ew.bulk ≤ 2000 ∧
  (∀ x y w : Int, ex = .int x → ey = .int y → ew = .int w → w ≠ 0 → w.natAbs < 2 ^ 2100 ∧ ∀ p H', H p = none → Evl.Ex H H' → H' p = some (.tup ((placeOf x y w).map V.int)) → Q (.ref p) H') ∧
  (¬ Xyw ex ey ew → ∀ p d H', H p = none → H d = none → Evl.Ex H H' → H' p = some (.tup [vx, vy, vw]) → H' d = some (.xd [(("thing" : Str), .ref p)]) → E (.ref C) (some d) H')
theorem isInts3_xyw {ex ey ew : PyData} (h : isInts 3 (.tuple [ex, ey, ew]) = true) : ∃ x y w : Int, ex = .int x ∧ ey = .int y ∧ ew = .int w := by
  obtain ⟨x, y, w, e⟩ := isInts3 h
  cases e
  exact ⟨x, y, w, rfl, rfl, rfl⟩
theorem xyw_not {ex ey ew : PyData} (h : ¬ isInts 3 (.tuple [ex, ey, ew]) = true) : ¬ Xyw ex ey ew := by
  rintro ⟨x, y, w, rfl, rfl, rfl, _⟩
  exact h rfl
theorem xyw_zero {ex ey : PyData} : ¬ Xyw ex ey (.int 0) := by
  rintro ⟨x, y, w, _, _, e, h⟩
  cases e
  exact h rfl
theorem dd_three {F : Addr → Prop} {H : Hp} {a b c : V} {ea eb ec : PyData} (ha : Dd F H a ea) (hb : Dd F H b eb) (hc : Dd F H c ec) : DdAll F H [a, b, c] [ea, eb, ec] := .cons ha (.cons hb (.cons hc .nil))
theorem sz_three {c m : Nat} {ea eb ec : PyData} (za : Sz c m ea) (zb : Sz c m eb) (zc : Sz c m ec) : Sz (3 * c + 3) (m + 1) (.tuple [ea, eb, ec]) :=
  ((sza_cons za (sza_cons zb (sza_cons zc sza_nil))).mono (by omega) (Nat.le_refl _)).tuple
theorem bulk_three {ea eb ec : PyData} (za : ea.bulk ≤ 2000) (zb : eb.bulk ≤ 2000) (zc : ec.bulk ≤ 2000) : (PyData.tuple [ea, eb, ec]).bulk ≤ 7000 := by
  simp only [PyData.bulk, PyData.bulkAll]
  omega
theorem dd_int {F : Addr → Prop} {H : Hp} {v : V} {i : Int} (h : Dd F H v (.int i)) : v = .int i := by
  cases h
  rfl
section
variable {P : Program} {w : World} {K : PySem.W.Frag} {mg : Str → Option Value} {base : Heap}
theorem fk_place {C B fI : Addr} (S : At K mg "place" sPlace) (X : ErrTxt P K mg "BadPlace" "thing" C B fI) (GT : Fk P w K mg base CX0 2 "is_tuple_of_integers" ["thing", "many"] spIsTupB) (GR : Fk P w K mg base CX0 1 "reduced" ["triple"] spRed) :
    Fk P w K mg base (L2.CX P w) 3 "place" ["x", "y", "w"] (spPlace C) := by
  obtain ⟨f, fd, F, g⟩ := S.ex
  refine ⟨f, fd, F.okX scPlace (fun vs H Q E h => ?_) (fun cdv A outer s H vs Q E hr h => ?_), F.binds fun _ _ _ _ _ _ us hl => (match us, hl with | [_, _, _], _ => rfl), g, F.kp, fun_lk F⟩
  · obtain ⟨vx, vy, vw, G, ex, ey, ew, rfl, _⟩ := h
    rfl
  · obtain ⟨vx, vy, vw, G, ex, ey, ew, rfl, hx, hy, hw, zx, zy, zw, qa, qb⟩ := h
    have h1 : Room 1 (A.deeper (envOfC "place" (defScope sPlace) s.heap.objs.size f cdv)) := hr.mono (by decide)
    refine ⟨_, pss_cons (ps_set (i := 3) scPlace.nd rfl (.inl rfl) (pe_tup (pa_cons (pv 0) (pa_cons (pv 1) (pa_cons (pv 2) pa_nil)))))
      (pss_cons (ps_if (PW.pt (pw_or (pt_not (pt_val (pe_cl GT hr (by rfl) pass0 (pa_cons (pv 3) (pa_cons pe_int pa_nil))))) (pw_or1 (pt_cmpR op_eq (pv 2) pe_int (nomark _))))) (pss_one (ps_raiseEr rfl X h1 (takes_of rfl rfl rfl rfl) (pa_cons (pv 3) pa_nil) (by rfl))) pss_nil)
      (pss_cons (ps_asg (pe_cl GR h1 (by rfl) pass0 (pa_cons (pv 3) pa_nil)) (pg_tup (by rfl) (pgs_cons (pg_name (i := 0) scPlace.nd rfl (.inl rfl)) (pgs_cons (pg_name (i := 1) scPlace.nd rfl (.inl rfl)) (pgs_cons (pg_name (i := 2) scPlace.nd rfl (.inl rfl)) pgs_nil)))))
      (pss_one (ps_ret (pe_ifExp (pt_cmpR op_lt (pv 2) pe_int (nomark _)) (pe_tup (pa_cons (pe_un un_neg (pv 0)) (pa_cons (pe_un un_neg (pv 1)) (pa_cons (pe_un un_neg (pv 2)) pa_nil)))) (pe_tup (pa_cons (pv 0) (pa_cons (pv 1) (pa_cons (pv 2) pa_nil))))))))), ?_⟩
    refine ⟨_, rfl, _, rfl, _, rfl, by show 3 ≤ sizeLine; decide, fun p np => ?_⟩
    have x1 : Evl.Ex H (upd H p (.tup [vx, vy, vw])) := Evl.Ex.new np
    have ep : (upd H p (.tup [vx, vy, vw])) p = some (.tup [vx, vy, vw]) := upd_same
    generalize upd H p (.tup [vx, vy, vw]) = H1 at x1 ep
    have raise : ∀ H2, Evl.Ex H H2 → H2 p = some (.tup [vx, vy, vw]) → ¬ Xyw ex ey ew → ∀ d, H2 d = none → E (.ref C) (some d) (upd H2 d (.xd [(("thing" : Str), .ref p)])) := fun H2 x2 e2 no d nd =>
      qb no p d _ np (Evl.fresh_back x2 nd) (x2.trans (Evl.Ex.new nd)) (by rw [upd_ne (ne_of_none e2 nd)]; exact e2) upd_same
    refine ⟨_, rfl, .ref p, G, .tuple [ex, ey, ew], 3, rfl, .tup ep (dd_three (hx.keep (ex_keep x1)) (hy.keep (ex_keep x1)) (hw.keep (ex_keep x1))), bulk_three zx zy zw, fun H2 x2 => ⟨_, rfl, ?_⟩⟩
    have x12 := x1.trans x2
    have ep2 := x2 _ _ ep
    refine ite2 (fun h => ?_) (fun h => ?_)
    · have no : ¬ isInts 3 (.tuple [ex, ey, ew]) = true := fun z => by
        rw [z] at h
        cases h
      exact iteT ⟨_, rfl, _, rfl, fun d nd => raise H2 x12 ep2 (xyw_not no) d nd⟩
    have yes : isInts 3 (.tuple [ex, ey, ew]) = true := by
      cases e : isInts 3 (.tuple [ex, ey, ew]) with
      | true => rfl
      | false =>
        rw [e] at h
        exact absurd rfl h
    obtain ⟨x, y, z, rfl, rfl, rfl⟩ := isInts3_xyw yes
    obtain rfl := dd_int hx
    obtain rfl := dd_int hy
    obtain rfl := dd_int hw
    refine ⟨_, rfl, rfl, _, rfl, ite2 (fun h0 => ?_) (fun h0 => ?_)⟩
    · have h0 : z = 0 := V.int.inj (of_decide_eq_true h0)
      subst h0
      exact ⟨_, rfl, _, rfl, fun d nd => raise H2 x12 ep2 xyw_zero d nd⟩
    have h0 : z ≠ 0 := fun e => h0 (decide_eq_true (by rw [e]))
    obtain ⟨b, qa⟩ := qa x y z rfl rfl rfl h0
    obtain ⟨g0, g1⟩ := gl_le (ns := [x, y, z]) (x := z) (by simp) h0
    refine ⟨_, rfl, p, x, y, z, rfl, ep2, g0, by omega, fun p2 H3 n2 x3 e3 => ?_⟩
    refine ⟨p2, _, rfl, SqT.of e3, rfl, _, _, rfl, _, _, rfl, _, _, rfl, rfl, ?_⟩
    have x13 := x12.trans x3
    refine ⟨_, rfl, _, 0, rfl, rfl, _, rfl, ite2 (fun hz => ?_) (fun hz => ?_)⟩
    · have hz : z < 0 := by
        have := of_decide_eq_true hz
        rwa [sign_div h0] at this
      refine ⟨_, rfl, _, rfl, _, rfl, _, rfl, _, rfl, _, rfl, by show 3 ≤ sizeLine; decide, fun p3 n3 => ?_⟩
      refine qa p3 _ (Evl.fresh_back x13 n3) (x13.trans (Evl.Ex.new n3)) ?_
      rw [upd_same, placeOf_neg (by omega), low_neg3] <;> rfl
    · have hz : 0 < z := by
        have h2 : ¬ z < 0 := fun e => hz (decide_eq_true (by rw [sign_div h0]; exact e))
        omega
      refine ⟨_, rfl, _, rfl, _, rfl, by show 3 ≤ sizeLine; decide, fun p3 n3 => ?_⟩
      refine qa p3 _ (Evl.fresh_back x13 n3) (x13.trans (Evl.Ex.new n3)) ?_
      rw [upd_same, placeOf_pos hz, low3] <;> rfl
end
end Ey
namespace Ey
open PySem PySem.Spec PyProof.Rows L2
/-! ### calls within a try -/
section
variable {X : Cx} {CX : CXT} {k : Nat} {x : Str} {ps : List Str} {sp : Sp} {E : L2.St → XK} {p pos : Pos}
theorem pe_clS {e : Expr} {es : List Expr} {t : TA} (G : Fk X.prog X.w X.K X.mg X.base CX k x ps sp) (hr : Room k X.A) (hg : Gl X x) (hx : ∀ σ, PassesAt CX X σ (E σ)) (ha : PA X (e :: es) t)
    (hdb : (x == ("__debug__" : Str)) = false := by decide) (he : starEach (e :: es) X.env = (false, eval e X.env) :: starEach es X.env := by rfl) (hpl : (backTo pos (starEach es X.env)).any (·.1) = false := by rfl) :
    PE X (.Call (.Name x p) (e :: es) [] pos) (tCallS sp E t) := by
  obtain ⟨f, fd, a, b, c, d⟩ := G.ex
  exact pe_callS a hr hg c d.1 b hx ha hdb he hpl
def tCallKwS (n : Nat) (o : List Nat) (sp : Sp) (E : L2.St → XK) (tk : TA) : TE := fun σ H Q => tk σ H fun zs H1 => zs.length = n ∧ sp (o.map fun i => zs.getD i .non) H1 Q (E σ)
theorem pe_clkS {st : Stmt} {ks : List Str} {o : List Nat} {kws : List Keyword} {tk : TA} (G : Fk X.prog X.w X.K X.mg X.base CX k x ps sp) (S : At X.K X.mg x st) (B : KwOf X.K x st ps ks o) (ho : ∀ i ∈ o, i < ks.length)
    (hr : Room k X.A) (hg : Gl X x) (hx : ∀ σ, PassesAt CX X σ (E σ)) (hkw : PK X kws tk)
    (hall : (backToKw pos (keywordEach kws X.env)).all (·.1.isSome) = true := by rfl) (hks : (backToKw pos (keywordEach kws X.env)).filterMap (·.1) = ks := by rfl) (hdb : (x == ("__debug__" : Str)) = false := by decide)
    (hpl : ((backTo pos (starEach [] X.env)).any (·.1) || (backToKw pos (keywordEach kws X.env)).any (·.1.isNone)) = false := by rfl) :
    PE X (.Call (.Name x p) [] kws pos) (tCallKwS ks.length o sp E tk) := by
  obtain ⟨f, fd, a, _, c, d, oc, od, osl, lk⟩ := G.ex
  obtain ⟨f2, fd2, F2, c2⟩ := S.ex
  rw [c] at c2
  cases c2
  obtain ⟨oc2, od2, osl2, lk2⟩ := fun_lk F2
  rw [lk] at lk2
  cases lk2
  refine ⟨fun pins s σ H Q I h => ?_⟩
  refine wpAny_Call_Name_kw (ld_glob I hg c ?_ hdb)
  refine PySem.W.callWith_KW0 (h₀ := X.base) I.ok.mod.kin d hall ?_ hpl
  refine thn (hkw.run pos pins s σ H _ I h) fun ws s2 ⟨zs, H2, I2, rz, hl, q2⟩ => ⟨I2.kIn, ?_⟩
  rw [hks]
  have hl2 : ws.length = ks.length := rz.length.symm.trans hl
  have r2 := vals_perm rz o fun i hi => by rw [hl]; exact ho i hi
  refine wpAny_call (codeAny_mono (a.run X.A X.stack s2 H2 ⟨[], ks.zip ws⟩ _ _ Q (E σ) hr I2.env0 (B f fd F2 s2 ws I2.kIn hl2) r2 q2) fun r s' hq => ?_)
  cases r with
  | error e => exact hx σ pins H2 s2 e s' I2 hq
  | ok fl =>
    cases fl with
    | ret u => exact I2.after hq
    | next => exact False.elim hq
    | brk => exact False.elim hq
    | cont => exact False.elim hq
end
/-- what never raises here -/
theorem passF {X : Cx} : Passes (L2.CX X.prog X.w) X (fun _ _ _ => False) := fun _ _ _ _ _ _ _ ⟨_, _, _, _, _, _, _, _, _, _, _, _, h⟩ => h.elim
end Ey
namespace Ey
open PySem PySem.Spec PyProof.Rows L2
/-! ### what place tells -/
abbrev sTold : Stmt := topS 21
theorem scTold : FnScope ["x", "y", "w", "way", "e"] ["x", "y", "w", "way"] (defScope sTold) := ⟨rfl, rfl, rfl, by decide +kernel, rfl, by decide +kernel, by decide +kernel⟩
def toldY (x y w : Int) : PyData := .tuple [.str "told", .tuple ((placeOf x y w).map .int)]
def toldN (ex ey ew : PyData) : PyData := .tuple [.str "none", .tuple [ex, ey, ew], .bool true]
def spTold : Sp := fun vs H Q _ => ∃ (vx vy vw : V) (way : Int) (F : Addr → Prop) (ex ey ew : PyData), vs = [vx, vy, vw, .int way] ∧ Dd F H vx ex ∧ Dd F H vy ey ∧ Dd F H vw ew ∧ ex.bulk ≤ 2000 ∧ ey.bulk ≤ 2000 ∧ ew.bulk ≤ 2000 ∧
  (∀ x y w : Int, ex = .int x → ey = .int y → ew = .int w → w ≠ 0 → w.natAbs < 2 ^ 2100 ∧ ∀ v H', Evl.Ex H H' → Dd F H' v (toldY x y w) → Q v H') ∧
  (¬ Xyw ex ey ew → ∀ v H', Evl.Ex H H' → Dd F H' v (toldN ex ey ew) → Q v H')
section
variable {P : Program} {w : World} {K : PySem.W.Frag} {mg : Str → Option Value} {base : Heap}
theorem fk_told {C B fI : Addr} (S : At K mg "_law_told" sTold) (T : Blt mg) (X : ErrTxt P K mg "BadPlace" "thing" C B fI) (D : ExcC K C) (te : PySem.W.exmOne K (.ref C) (.ref C) = some true) (ki : PySem.W.kitOne K (.ref C) (.ref B) = some true) (gB : mg "EyeError" = some (.ref B))
    (SP : At K mg "place" sPlace) (BP : KwOf K "place" sPlace ["x", "y", "w"] ["w", "y", "x"] [2, 1, 0]) (GP : Fk P w K mg base (L2.CX P w) 3 "place" ["x", "y", "w"] (spPlace C)) :
    Fk P w K mg base CX0 4 "_law_told" ["x", "y", "w", "way"] spTold := by
  obtain ⟨f, fd, F, g⟩ := S.ex
  refine ⟨f, fd, F.ok scTold (fun vs H Q E h => ?_) (fun cdv A outer s H vs Q E hr h => ?_), F.binds fun _ _ _ _ _ _ us hl => (match us, hl with | [_, _, _, _], _ => rfl), g, F.kp, fun_lk F⟩
  · obtain ⟨vx, vy, vw, way, G, ex, ey, ew, rfl, _⟩ := h
    rfl
  · obtain ⟨vx, vy, vw, way, G, ex, ey, ew, rfl, hx, hy, hw, zx, zy, zw, qa, qb⟩ := h
    refine ⟨_, pss_one (ps_try_as (i := 4) (Wout := fun _ _ _ _ => False) (tb := fun W => tRet (tTup (tCons (tC (.str "told")) (tCons (tIf (tTest (tOp rEq (tVar 3) (tC (.int 0)))) (tCallS (spPlace C) (WE W) (tCons (tVar 0) (tCons (tVar 1) (tCons (tVar 2) tNil))))
          (tCallKwS 3 [2, 1, 0] (spPlace C) (WE W) (tCons (tVar 2) (tCons (tVar 1) (tCons (tVar 0) tNil))))) tNil))))
        (ts := fun a cls d => tRet (tTup (tCons (tC (.str "none")) (tCons (tByEr C "thing" a cls d (tVar 4)) (tCons (tCB (rIsEr K C a "thing" cls d) (tCons (tVar 4) (tCons (tC (.ref B)) tNil))) tNil)))))
        rfl rfl scTold.nd rfl rfl ⟨rfl, by decide, Or.inl X.gC⟩ takes0
        (fun W pn xe tk _ => pss_one (ps_ret (pe_tup (pa_cons pe_str (pa_cons (pe_ifExp (pt_cmpR op_eq (pv 3) pe_int (nomark _)) (pe_clS GP hr (by rfl) (fun σ => passAt tk σ) (pa_cons (pv 0) (pa_cons (pv 1) (pa_cons (pv 2) pa_nil))))
          (pe_clkS GP SP BP (by decide) hr (by rfl) (fun σ => passAt tk σ) (pk_cons (pv 2) (pk_cons (pv 1) (pk_cons (pv 0) pk_nil))))) pa_nil)))))
        (fun a oe cls d pn hz hf => pss_one (ps_ret (pe_tup (pa_cons pe_str (pa_cons (pe_byEr X hz hf (pv 4)) (pa_cons (pe_callB (call_isEr D hz hf) (by rfl) T.isinst (by decide +kernel) (pa_cons (pv 4) (pa_cons (pe_glob (by rfl) gB rfl) pa_nil))) pa_nil))))))), ?_⟩
    have yes : ∀ x y z : Int, ex = .int x → ey = .int y → ew = .int z → z ≠ 0 → z.natAbs < 2 ^ 2100 ∧ ∀ p H1, H p = none → Evl.Ex H H1 → H1 p = some (.tup ((placeOf x y z).map V.int)) →
        [V.str "told", V.ref p].length ≤ sizeLine ∧ ∀ t, H1 t = none → Q (.ref t) (upd H1 t (.tup [.str "told", .ref p])) := fun x y z e1 e2 e3 h0 =>
      ⟨(qa x y z e1 e2 e3 h0).1, fun p H1 _ x1 ep => ⟨by show 2 ≤ sizeLine; decide, fun t nt =>
        (qa x y z e1 e2 e3 h0).2 _ _ (x1.trans (Evl.Ex.new nt)) (.tup upd_same (.cons (.str _) (.cons (.tup (Evl.Ex.new nt _ _ ep) (dd_ints _)) .nil)))⟩⟩
    refine ⟨_, rfl, rfl, _, rfl, ite2 (fun hw => ?_) (fun hw => ?_)⟩
    · refine ⟨_, rfl, _, rfl, _, rfl, vx, vy, vw, G, ex, ey, ew, rfl, hx, hy, ‹Dd G H vw ew›, zx, zy, zw, yes, fun nx p d H1 np nd x1 ep ed => ⟨true, te, fun _ a na => ?_, fun z => by cases z⟩⟩
      refine ⟨_, rfl, rfl, rfl, d, _, rfl, ed, _, rfl, .ref B, .ref B, true, d, _, rfl, rfl, rfl, ed, fun u r => r, ki, by show 3 ≤ sizeLine; decide, fun t nt => ?_⟩
      have xt := x1.trans (Evl.Ex.new (o := .tup [.str "none", .ref p, .bl true]) nt)
      exact qb nx _ _ xt (.tup upd_same (.cons (.str _) (.cons (.tup (Evl.Ex.new nt _ _ ep) (dd_three (hx.keep (ex_keep xt)) (hy.keep (ex_keep xt)) ((‹Dd G H vw ew›).keep (ex_keep xt)))) (.cons (.bl _) .nil))))
    · refine ⟨_, rfl, _, rfl, _, rfl, rfl, vx, vy, vw, G, ex, ey, ew, rfl, hx, hy, ‹Dd G H vw ew›, zx, zy, zw, yes, fun nx p d H1 np nd x1 ep ed => ⟨true, te, fun _ a na => ?_, fun z => by cases z⟩⟩
      refine ⟨_, rfl, rfl, rfl, d, _, rfl, ed, _, rfl, .ref B, .ref B, true, d, _, rfl, rfl, rfl, ed, fun u r => r, ki, by show 3 ≤ sizeLine; decide, fun t nt => ?_⟩
      have xt := x1.trans (Evl.Ex.new (o := .tup [.str "none", .ref p, .bl true]) nt)
      exact qb nx _ _ xt (.tup upd_same (.cons (.str _) (.cons (.tup (Evl.Ex.new nt _ _ ep) (dd_three (hx.keep (ex_keep xt)) (hy.keep (ex_keep xt)) ((‹Dd G H vw ew›).keep (ex_keep xt)))) (.cons (.bl _) .nil))))
end
end Ey
namespace Ey
open PySem PySem.Spec PyProof.Rows L2
abbrev sNum : Stmt := topS 22
theorem scNum : FnScope ["deck"] ["deck"] (defScope sNum) := ⟨rfl, rfl, rfl, by decide +kernel, rfl, by decide +kernel, by decide +kernel⟩
def spNum : Sp := fun vs H Q _ => ∃ (d l : Addr), vs = [.ref d] ∧ Deck d l H ∧ ∀ (i : Int) (H' : Hp), i.natAbs ≤ 100000000000 → Deck d l H' → Kp d l H H' → Q (.int i) H'
def Far (v : V) : Prop := ∃ y : Int, v = .int y ∧ y.natAbs ≤ 100000000000
theorem far_of {y : Int} (h : y.natAbs ≤ 100000000000) : Far (.int y) := ⟨y, rfl, h⟩
section
variable {P : Program} {w : World} {K : PySem.W.Frag} {mg : Str → Option Value} {base : Heap}
theorem fk_num (S : At K mg "_law_number" sNum) (T : Blt mg) (GD : Fk P w K mg base CX0 1 "_law_draw" ["deck", "many"] spDraw) (GP : Fk P w K mg base CX0 2 "_law_pick" ["deck", "some"] spPick) : Fk P w K mg base CX0 3 "_law_number" ["deck"] spNum := by
  obtain ⟨f, fd, F, g⟩ := S.ex
  refine ⟨f, fd, F.ok scNum (fun vs H Q E h => ?_) (fun cdv A outer s H vs Q E hr h => ?_), F.binds fun _ _ _ _ _ _ us hl => (match us, hl with | [_], _ => rfl), g, F.kp, fun_lk F⟩
  · obtain ⟨d, l, rfl, _⟩ := h
    rfl
  · obtain ⟨d, l, rfl, D, q⟩ := h
    have h1 : Room 1 (A.deeper (envOfC "_law_number" (defScope sNum) s.heap.objs.size f cdv)) := hr.mono (by decide)
    refine ⟨_, pss_one (ps_ret (pe_cl GP hr (by rfl) pass0 (pa_cons (pv 0) (pa_cons (pe_lst (pa_cons (pe_op op_sub (pe_cl GD h1 (by rfl) pass0 (pa_cons (pv 0) (pa_cons pe_int pa_nil))) pe_int) (pa_cons pe_int (pa_cons pe_int (pa_cons (pe_un un_neg pe_int) (pa_cons pe_int
              (pa_cons (pe_un un_neg pe_int) (pa_cons pe_int (pa_cons (pe_cl GD h1 (by rfl) pass0 (pa_cons (pv 0) (pa_cons (pe_op op_pow pe_int pe_int) pa_nil))) (pa_cons (pe_un un_neg (pe_op op_pow pe_int pe_int)) pa_nil)))))))))) pa_nil)))), ?_⟩
    refine ⟨_, rfl, _, rfl, d, l, 13, rfl, by decide, by decide, D, fun r1 H1 r10 r11 D1 k1 => ⟨r1, 6, rfl, rfl, 1, rfl, 60, rfl, _, rfl, 10, 11, rfl, rfl, ⟨by decide, by decide, by decide⟩, d, l, _, rfl, by decide, by decide, D1, fun r2 H2 r20 r21 D2 k2 => ?_⟩⟩
    refine ⟨10, 10, rfl, rfl, ⟨by decide, by decide, by decide⟩, _, rfl, by show 9 ≤ sizeLine; decide, fun a na => ⟨d, l, a, _, rfl, D2.new na, upd_same, (D2.off na).1, (D2.off na).2, by show 0 < 9; decide, by show 9 ≤ 1000; decide, fun j v H' hv D' k' => ?_⟩⟩
    have e11 : (10 : Int) ^ (Int.toNat 11) = 100000000000 := by decide
    have hS : Far v := by
      have := List.mem_of_getElem? hv
      refine all_cons (p := Far) (far_of (by omega)) (all_cons (far_of (by decide)) (all_cons (far_of (by decide)) (all_cons (far_of (by decide)) (all_cons (far_of (by decide)) (all_cons (far_of (by decide)) (all_cons (far_of (by decide)) (all_cons (far_of ?_) (all_cons (far_of (by decide)) all_nil)))))))) v this
      rw [e11] at r21
      omega
    obtain ⟨y, rfl, hy⟩ := hS
    exact q y H' hy D' (((k1.trans k2).new na).trans k')
end
end Ey
namespace Ey
open PySem PySem.Spec PyProof.Rows L2
/-! ### places and multiples -/
theorem gl_mul3 (x y z s : Int) : gl [x * s, y * s, z * s] = gl [x, y, z] * s.natAbs := by
  rw [gl3, gl3, Int.natAbs_mul, Int.natAbs_mul, Int.natAbs_mul, Nat.gcd_mul_right, Nat.gcd_mul_right]
theorem low_mul3 {x y z s : Int} (h : 0 < s) : lowest [x * s, y * s, z * s] = lowest [x, y, z] := by
  have e : ((gl [x * s, y * s, z * s] : Nat) : Int) = ((gl [x, y, z] : Nat) : Int) * s := by
    rw [gl_mul3, Int.natCast_mul, Int.natAbs_of_nonneg (Int.le_of_lt h)]
  rw [low3, low3, e, Int.mul_ediv_mul_of_pos_left _ _ h, Int.mul_ediv_mul_of_pos_left _ _ h, Int.mul_ediv_mul_of_pos_left _ _ h]
theorem placeOf_mul {x y w t : Int} (hw : w ≠ 0) (ht : t ≠ 0) : placeOf (x * t) (y * t) (w * t) = placeOf x y w := by
  by_cases h : 0 < t
  · by_cases g : 0 < w
    · rw [placeOf_pos g, placeOf_pos (Int.mul_pos g h), low_mul3 h]
    · have g' : w * t < 0 := Int.mul_neg_of_neg_of_pos (by omega) h
      rw [placeOf_neg g, placeOf_neg (by omega), ← Int.neg_mul, ← Int.neg_mul, ← Int.neg_mul, low_mul3 h]
  · have h' : 0 < -t := by omega
    by_cases g : 0 < w
    · have g' : w * t < 0 := Int.mul_neg_of_pos_of_neg g (by omega)
      rw [placeOf_pos g, placeOf_neg (by omega), ← Int.mul_neg, ← Int.mul_neg, ← Int.mul_neg, low_mul3 h']
    · have g' : 0 < w * t := Int.mul_pos_of_neg_of_neg (by omega) (by omega)
      rw [placeOf_neg g, placeOf_pos g', ← low_mul3 (x := -x) (y := -y) (z := -w) h', Int.neg_mul_neg, Int.neg_mul_neg, Int.neg_mul_neg]
theorem natAbs_div {x : Int} {g : Nat} (h : (g : Int) ∣ x) : (x / (g : Int)).natAbs = x.natAbs / g := by
  obtain ⟨k, rfl⟩ := h
  by_cases hg : g = 0
  · subst hg
    simp
  · rw [Int.mul_ediv_cancel_left _ (by omega), Int.natAbs_mul, Int.natAbs_natCast, Nat.mul_div_cancel_left _ (Nat.pos_of_ne_zero hg)]
theorem gl_low3 {x y z : Int} (h : 0 < gl [x, y, z]) : Nat.gcd (Nat.gcd (x / (gl [x, y, z] : Nat)).natAbs (y / (gl [x, y, z] : Nat)).natAbs) (z / (gl [x, y, z] : Nat)).natAbs = 1 := by
  have dx := gl_dvd (ns := [x, y, z]) x (by simp)
  have dy := gl_dvd (ns := [x, y, z]) y (by simp)
  have dz := gl_dvd (ns := [x, y, z]) z (by simp)
  rw [natAbs_div (dvd_gl (by simp)), natAbs_div (dvd_gl (by simp)), natAbs_div (dvd_gl (by simp)), Nat.gcd_div dx dy, Nat.gcd_div (Nat.dvd_gcd dx dy) dz, ← gl3]
  exact Nat.div_self h
theorem isPlace_low {x y z : Int} (h : 0 < z) : isPlace (.tuple ((lowest [x, y, z]).map .int)) = true := by
  obtain ⟨g0, _⟩ := gl_le (ns := [x, y, z]) (x := z) (by simp) (by omega)
  show (decide (0 < z / (gl [x, y, z] : Nat)) && decide (Nat.gcd (Nat.gcd (x / (gl [x, y, z] : Nat)).natAbs (y / (gl [x, y, z] : Nat)).natAbs) (z / (gl [x, y, z] : Nat)).natAbs = 1)) = true
  have hs : ¬ (z / (gl [x, y, z] : Nat) < 0) := by
    rw [sign_div (by omega)]
    omega
  have h0 : z / (gl [x, y, z] : Nat) ≠ 0 := by
    have hd : ((gl [x, y, z] : Nat) : Int) ∣ z := dvd_gl (by simp)
    intro e
    have := Int.ediv_mul_cancel hd
    rw [e] at this
    omega
  rw [decide_eq_true (by omega : 0 < z / (gl [x, y, z] : Nat)), decide_eq_true (gl_low3 g0)]
  rfl
theorem isPlace_placeOf {x y w : Int} (h : w ≠ 0) : isPlace (.tuple ((placeOf x y w).map .int)) = true := by
  by_cases g : 0 < w
  · rw [placeOf_pos g]
    exact isPlace_low g
  · rw [placeOf_neg g]
    exact isPlace_low (by omega)
theorem placeOf_is (x y w : Int) : ∃ a b c : Int, placeOf x y w = [a, b, c] ∧ a.natAbs ≤ x.natAbs ∧ b.natAbs ≤ y.natAbs ∧ c.natAbs ≤ w.natAbs := by
  by_cases g : 0 < w
  · rw [placeOf_pos g]
    exact ⟨_, _, _, low3 .., Int.natAbs_ediv_le_natAbs _ _, Int.natAbs_ediv_le_natAbs _ _, Int.natAbs_ediv_le_natAbs _ _⟩
  · rw [placeOf_neg g]
    refine ⟨_, _, _, low3 .., ?_, ?_, ?_⟩
    · exact Nat.le_trans (Int.natAbs_ediv_le_natAbs _ _) (by omega)
    · exact Nat.le_trans (Int.natAbs_ediv_le_natAbs _ _) (by omega)
    · exact Nat.le_trans (Int.natAbs_ediv_le_natAbs _ _) (by omega)
theorem sz_placeOf {n1 n2 n3 m1 m2 m3 : Nat} {x y w : Int} (hx : Sz n1 m1 (.int x)) (hy : Sz n2 m2 (.int y)) (hw : Sz n3 m3 (.int w)) : Sz 3 1 (.tuple ((placeOf x y w).map .int)) := by
  obtain ⟨a, b, c, e, ha, hb, hc⟩ := placeOf_is x y w
  rw [e]
  exact ((sza_cons (sz_intW (log_le ha (sh_int hx.sh))) (sza_cons (sz_intW (log_le hb (sh_int hy.sh))) (sza_cons (sz_intW (log_le hc (sh_int hw.sh))) sza_nil))).tuple).mono (by decide) (by decide)
theorem ddAll_ints {F : Addr → Prop} {H : Hp} : ∀ {vs : List V} {ns : List Int}, DdAll F H vs (ns.map PyData.int) → vs = ns.map V.int
  | _, [], h => by
    cases h
    rfl
  | _, n :: ns, h => by
    cases h with
    | cons a b =>
      cases a
      rw [ddAll_ints b] <;> rfl
end Ey
namespace Ey
open PySem PySem.Spec PyProof.Rows L2
/-! ### the law -/
abbrev sLaw : Stmt := topS 23
theorem scLaw : FnScope ["script", "deck", "turn", "x", "y", "w", "row", "again", "is_right", "due", "times"] ["script"] (defScope sLaw) := ⟨rfl, rfl, rfl, by decide +kernel, rfl, by decide +kernel, by decide +kernel⟩
theorem str_same {x : Str} : (!decide (V.str x = V.str x)) = false := by rw [decide_eq_true rfl] <;> rfl
abbrev off (d l : Addr) : Addr → Prop := fun b => b ≠ d ∧ b ≠ l
/-- between the statements: x, y and w hold data -/
structure Tri (d l : Addr) (H : Hp) (vx vy vw : V) (ex ey ew : PyData) : Prop where
  x : Dd (off d l) H vx ex
  y : Dd (off d l) H vy ey
  w : Dd (off d l) H vw ew
  sx : Sz 31 4 ex
  sy : Sz 31 4 ey
  sw : Sz 31 4 ew
theorem Tri.keep {d l : Addr} {H H' : Hp} {vx vy vw : V} {ex ey ew : PyData} (t : Tri d l H vx vy vw ex ey ew) (k : ∀ a o, H a = some o → (off d l a ∨ ∃ xs, o = .tup xs) → H' a = some o) : Tri d l H' vx vy vw ex ey ew :=
  ⟨t.x.keep k, t.y.keep k, t.w.keep k, t.sx, t.sy, t.sw⟩
def Mid (a d l : Addr) (σ : L2.St) (H : Hp) : Prop := ∃ (t : Option V) (vx vy vw : V) (ex ey ew : PyData) (r ag ir du ti : Option V), σ = [some (.ref a), some (.ref d), t, some vx, some vy, some vw, r, ag, ir, du, ti] ∧ Deck d l H ∧ Tri d l H vx vy vw ex ey ew
def Mid2 (a d l : Addr) (σ : L2.St) (H : Hp) : Prop := ∃ (t : Option V) (vx vy vw : V) (ex ey ew : PyData) (r ag : Option V) (b : Bool) (du ti : Option V), σ = [some (.ref a), some (.ref d), t, some vx, some vy, some vw, r, ag, some (.bl b), du, ti] ∧ Deck d l H ∧ Tri d l H vx vy vw ex ey ew ∧
  (b = true → Xyw ex ey ew) ∧ (b = false → ¬ Xyw ex ey ew)
/-- what is due -/
def Due (ex ey ew D : PyData) : Prop := (∃ x y w : Int, ex = .int x ∧ ey = .int y ∧ ew = .int w ∧ w ≠ 0 ∧ D = toldY x y w) ∨ (¬ Xyw ex ey ew ∧ D = toldN ex ey ew)
def Mid3 (a d l : Addr) (σ : L2.St) (H : Hp) : Prop := ∃ (t : Option V) (vx vy vw : V) (ex ey ew : PyData) (r ag : Option V) (b : Bool) (dv : V) (D : PyData) (ti : Option V), σ = [some (.ref a), some (.ref d), t, some vx, some vy, some vw, r, ag, some (.bl b), some dv, ti] ∧ Deck d l H ∧ Tri d l H vx vy vw ex ey ew ∧
  (b = true → Xyw ex ey ew) ∧ Due ex ey ew D ∧ Dd (off d l) H dv D
theorem sz_due {ex ey ew D : PyData} (h : Due ex ey ew D) (hx : Sz 31 4 ex) (hy : Sz 31 4 ey) (hw : Sz 31 4 ew) : Sz 110 6 D := by
  rcases h with ⟨x, y, w, rfl, rfl, rfl, _, rfl⟩ | ⟨_, rfl⟩
  · exact ((sza_cons ((sz_str (x := "told") (n := 4) (by decide) (by decide)).mono (Nat.le_refl _) (by decide : 0 ≤ 1)) (sza_cons (sz_placeOf hx hy hw) sza_nil)).tuple).mono (by decide) (by decide)
  · exact ((sza_cons ((sz_str (x := "none") (n := 4) (by decide) (by decide)).mono (Nat.le_refl _) (by decide : 0 ≤ 5)) (sza_cons (sz_three hx hy hw) (sza_cons ((sz_bool true).mono (Nat.le_refl _) (by decide : 0 ≤ 5)) sza_nil))).tuple).mono (by decide) (by decide)
theorem told_go {d l : Addr} {H : Hp} {Q : VK} {E : XK} {vx vy vw : V} {ex ey ew D : PyData} {way : Int} (t : Tri d l H vx vy vw ex ey ew) (hD : Due ex ey ew D) (q : ∀ v H', Evl.Ex H H' → Dd (off d l) H' v D → Q v H') : spTold [vx, vy, vw, .int way] H Q E := by
  refine ⟨vx, vy, vw, way, off d l, ex, ey, ew, rfl, t.x, t.y, t.w, Nat.le_trans t.sx.bk (by decide), Nat.le_trans t.sy.bk (by decide), Nat.le_trans t.sw.bk (by decide), fun x y w e1 e2 e3 h0 => ⟨?_, fun v H' x1 hv => ?_⟩, fun nx v H' x1 hv => ?_⟩
  · subst e3
    exact Nat.lt_of_lt_of_le (lt_log (sh_int t.sw.sh)) (Nat.pow_le_pow_right (by decide) (by decide))
  · rcases hD with ⟨x', y', w', f1, f2, f3, _, rfl⟩ | ⟨nx, _⟩
    · rw [e1] at f1
      rw [e2] at f2
      rw [e3] at f3
      cases f1
      cases f2
      cases f3
      exact q v H' x1 hv
    · exact absurd ⟨x, y, w, e1, e2, e3, h0⟩ nx
  · rcases hD with ⟨x', y', w', f1, f2, f3, h0, _⟩ | ⟨_, rfl⟩
    · exact absurd ⟨x', y', w', f1, f2, f3, h0⟩ nx
    · exact q v H' x1 hv
theorem dd_toldY {F : Addr → Prop} {H : Hp} {v : V} {x y w : Int} (h : Dd F H v (toldY x y w)) : ∃ p q, v = .ref p ∧ H p = some (.tup [.str "told", .ref q]) ∧ H q = some (.tup ((placeOf x y w).map V.int)) := by
  cases h with
  | tup e r =>
    cases r with
    | cons a r =>
      cases r with
      | cons b r =>
        cases r
        cases a
        cases b with
        | tup e2 r2 =>
          rw [ddAll_ints r2] at e2
          exact ⟨_, _, rfl, e, e2⟩
section
variable {P : Program} {w : World} {K : PySem.W.Frag} {mg : Str → Option Value} {base : Heap}
theorem law_ok {C fa : Addr} {fd : FuncData} (F : Fun K "law" "law" sLaw fa fd) (T : Blt mg) (GK : Fk P w K mg base CX0 1 "_law_deck" ["script", "seed"] (spDeck K)) (GD : Fk P w K mg base CX0 1 "_law_draw" ["deck", "many"] spDraw) (GP : Fk P w K mg base CX0 2 "_law_pick" ["deck", "some"] spPick)
    (GA : Fk P w K mg base CX0 4 "_law_any" ["deck", "deep"] (spAny 1)) (GN : Fk P w K mg base CX0 3 "_law_number" ["deck"] spNum) (GI : Fk P w K mg base CX0 2 "_law_are_integers" ["thing", "many"] spIsTup) (GL : Fk P w K mg base CX0 3 "_law_place" ["x", "y", "w"] spLPlace)
    (GT : Fk P w K mg base CX0 4 "_law_told" ["x", "y", "w", "way"] spTold) (G1 : Fk P w K mg base CX0 3 "is_place" ["thing"] (spIs isPlace)) (GQ : Fk P w K mg base (L2.CX P w) 3 "place" ["x", "y", "w"] (spPlace C)) : LawOk P w K mg base fa := by
  intro s H a ns e0 hS hl
  have bL := F.binds (ps := ["script"]) fun _ _ _ _ _ _ us hl => (match us, hl with | [_], _ => rfl)
  refine fn_at (k := 5) F scLaw ⟨rfl, by decide, by decide⟩ (vs := [.ref a]) rfl e0 (bL s [.ref a] (e0.mod.kin.keeps fun b o e => (e0.bs b o e).1) rfl) (.cons rfl .nil) fun cdv => ?_
  have hr : Room 5 (callerA.deeper (envOfC "law" (defScope sLaw) s.heap.objs.size fa cdv)) := Room.deeper ⟨rfl, by decide, by decide⟩ _
  have h4 := hr.mono (by decide : 4 ≤ 5)
  have h3 := hr.mono (by decide : 3 ≤ 5)
  have h2 := hr.mono (by decide : 2 ≤ 5)
  have h1 := hr.mono (by decide : 1 ≤ 5)
  refine ⟨_, pss_cons (ps_set (i := 1) scLaw.nd rfl (.inl rfl) (pe_cl GK h1 (by rfl) pass0 (pa_cons (pv 0) (pa_cons pe_int pa_nil))))
    (pss_cons (ps_for PassesOwn.never rfl (pi_range1 rfl T.range (pa_cons pe_int pa_nil)) (pg_name (i := 2) scLaw.nd rfl (.inl rfl))
      (pss_cons (ps_par3 (i := 3) (j := 4) (l := 5) (by rfl) scLaw.nd rfl rfl rfl (by decide) (by decide) (by decide) rfl rfl rfl (pa_cons (pe_cl GN h3 (by rfl) pass0 (pa_cons (pv 1) pa_nil)) (pa_cons (pe_cl GN h3 (by rfl) pass0 (pa_cons (pv 1) pa_nil)) (pa_cons (pe_cl GN h3 (by rfl) pass0 (pa_cons (pv 1) pa_nil)) pa_nil))) (by rfl))
      (Evl.pss_cut (ps_if (pt_cmpR op_eq (pe_cl GD h1 (by rfl) pass0 (pa_cons (pv 1) (pa_cons pe_int pa_nil))) pe_int (nomark _))
        (pss_cons (ps_set (i := 6) scLaw.nd rfl (.inl rfl) (pe_lst (pa_cons (pv 3) (pa_cons (pv 4) (pa_cons (pv 5) pa_nil)))))
        (pss_cons (ps_for PassesOwn.never rfl (pi_range1 rfl T.range (pa_cons (pe_op op_add pe_int (pe_cl GD h1 (by rfl) pass0 (pa_cons (pv 1) (pa_cons pe_int pa_nil)))) pa_nil)) (pg_name (i := 7) scLaw.nd rfl (.inl rfl))
          (pss_one (ps_asg (pe_cl GP h2 (by rfl) pass0 (pa_cons (pv 1) (pa_cons (pe_lst (pa_cons pe_bl (pa_cons pe_non (pa_cons pe_str (pa_cons (pe_tup (pa_cons pe_int pa_nil)) (pa_cons (pe_lst (pa_cons pe_int pa_nil)) (pa_cons pe_int (pa_cons pe_bl (pa_cons (pe_cl GA h4 (by rfl) pass0 (pa_cons (pv 1) (pa_cons pe_int pa_nil))) pa_nil))))))))) pa_nil)))
            (pg_sub (pv 6) (pe_cl GD h1 (by rfl) pass0 (pa_cons (pv 1) (pa_cons pe_int pa_nil))) set_list))))
        (pss_one (ps_asg (pv 6) (pg_lst (by rfl) (pgs_cons (pg_name (i := 3) scLaw.nd rfl (.inl rfl)) (pgs_cons (pg_name (i := 4) scLaw.nd rfl (.inl rfl)) (pgs_cons (pg_name (i := 5) scLaw.nd rfl (.inl rfl)) pgs_nil)))))))) pss_nil)
      (Evl.pss_cut (ps_set (i := 8) scLaw.nd rfl (.inl rfl) (pe_and (pe_cl GI h2 (by rfl) pass0 (pa_cons (pe_tup (pa_cons (pv 3) (pa_cons (pv 4) (pa_cons (pv 5) pa_nil)))) (pa_cons pe_int pa_nil))) (pe_one (pe_cmpR op_ne (pv 5) pe_int (nomark _)))))
      (Evl.pss_cut (ps_set (i := 9) scLaw.nd rfl (.inl rfl) (pe_ifExp (pt_val (pv 8)) (pe_tup (pa_cons pe_str (pa_cons (pe_cl GL h3 (by rfl) pass0 (pa_cons (pv 3) (pa_cons (pv 4) (pa_cons (pv 5) pa_nil)))) pa_nil))) (pe_tup (pa_cons pe_str (pa_cons (pe_tup (pa_cons (pv 3) (pa_cons (pv 4) (pa_cons (pv 5) pa_nil)))) (pa_cons pe_bl pa_nil))))))
      (pss_cons (ps_if (pt_cmpR op_ne (pe_callB (cr_repr rfl hr.units) (by rfl) T.repr (by decide +kernel) (pa_cons (pe_tup (pa_cons (pe_cl GT h4 (by rfl) pass0 (pa_cons (pv 3) (pa_cons (pv 4) (pa_cons (pv 5) (pa_cons pe_int pa_nil))))) (pa_cons (pe_cl GT h4 (by rfl) pass0 (pa_cons (pv 3) (pa_cons (pv 4) (pa_cons (pv 5) (pa_cons pe_int pa_nil))))) pa_nil))) pa_nil))
          (pe_callB (cr_repr rfl hr.units) (by rfl) T.repr (by decide +kernel) (pa_cons (pe_tup (pa_cons (pv 9) (pa_cons (pv 9) pa_nil))) pa_nil)) (nomark _)) (pss_one (ps_ret pe_bl)) pss_nil)
      (pss_one (ps_if (pt_val (pv 8))
        (pss_cons (ps_set (i := 10) scLaw.nd rfl (.inl rfl) (pe_cl GP h2 (by rfl) pass0 (pa_cons (pv 1) (pa_cons (pe_lst (pa_cons pe_int (pa_cons (pe_un un_neg pe_int) (pa_cons pe_int (pa_cons (pe_un un_neg pe_int) pa_nil))))) pa_nil))))
        (pss_one (ps_if (PW.pt (pw_or (pt_cmpR op_notBl (pe_cl G1 h3 (by rfl) pass0 (pa_cons (pe_ix ix_tup (pv 9) pe_int (fun _ _ => rfl)) pa_nil)) pe_bl (nomark _))
            (pw_or1 (pt_cmpR op_ne (pe_callB (cr_repr rfl hr.units) (by rfl) T.repr (by decide +kernel) (pa_cons (pe_cl GQ h3 (by rfl) passF (pa_cons (pe_op op_mul (pv 3) (pv 10)) (pa_cons (pe_op op_mul (pv 4) (pv 10)) (pa_cons (pe_op op_mul (pv 5) (pv 10)) pa_nil)))) pa_nil))
              (pe_callB (cr_repr rfl hr.units) (by rfl) T.repr (by decide +kernel) (pa_cons (pe_ix ix_tup (pv 9) pe_int (fun _ _ => rfl)) pa_nil)) (nomark _))))) (pss_one (ps_ret pe_bl)) pss_nil)))
        pss_nil))))))))
    (pss_one (ps_ret pe_bl))), ?_⟩
  refine ⟨_, rfl, a, ns, _, rfl, hS, hl, fun d l H0 D0 x0 _ _ => ?_⟩
  refine ⟨8, rfl, by decide, by decide, for_range (lo := 0) (n := 8) (fun _ σ H' => ∃ t x y w r ag ir du ti, σ = [some (.ref a), some (.ref d), t, x, y, w, r, ag, ir, du, ti] ∧ Deck d l H') ⟨none, none, none, none, none, none, none, none, none, rfl, D0⟩ (fun i σ H' hi h => ?_) (fun σ H' h => rfl)⟩
  obtain ⟨t, x, y, w, r, ag, ir, du, ti, rfl, D⟩ := h
  -- three numbers
  refine ⟨_, rfl, d, l, rfl, D, fun i1 H1 b1 D1 _ => ⟨_, rfl, d, l, rfl, D1, fun i2 H2 b2 D2 _ => ⟨_, rfl, d, l, rfl, D2, fun i3 H3 b3 D3 _ => ⟨_, _, _, rfl, ?_⟩⟩⟩⟩
  have far : ∀ i : Int, i.natAbs ≤ 100000000000 → Sz 31 4 (.int i) := fun i h => (sz_int (Nat.lt_of_le_of_lt h (by decide))).mono (by decide) (by decide)
  have t3 : Tri d l H3 (.int i1) (.int i2) (.int i3) (.int i1) (.int i2) (.int i3) := ⟨.int _, .int _, .int _, far _ b1, far _ b2, far _ b3⟩
  refine ⟨Mid a d l, ?_, ?_⟩
  · refine ⟨_, rfl, d, l, 4, rfl, by decide, by decide, D3, fun n H4 _ _ D4 k4 => ⟨rfl, _, rfl, ?_⟩⟩
    have t4 := t3.keep (kp_keep D3 k4 fun b h => h)
    refine ite2 (fun _ => ?_) (fun _ => ⟨_, _, _, _, _, _, _, r, ag, ir, du, ti, rfl, D4, t4⟩)
    refine ⟨_, rfl, _, rfl, _, rfl, by show 3 ≤ sizeLine; decide, fun p np => ?_⟩
    have offp := D4.off np
    have D5 := D4.new (o := .lst [.int i1, .int i2, .int i3]) np
    have e5 : (upd H4 p (.lst [.int i1, .int i2, .int i3])) p = some (.lst [.int i1, .int i2, .int i3]) := upd_same
    generalize upd H4 p (.lst [.int i1, .int i2, .int i3]) = H5 at D5 e5
    refine ⟨_, rfl, d, l, 2, rfl, by decide, by decide, D5, fun n H6 n0 n1 D6 k6 => ⟨1, n, rfl, rfl, ?_⟩⟩
    have e6 := k6 _ _ e5 offp.1 offp.2
    refine ⟨1 + n, rfl, by omega, by omega, for_range (lo := 0) (n := (1 + n).toNat) (fun _ σ H' => ∃ (ag : Option V) (xs : List V) (ds : List PyData), σ = [some (.ref a), some (.ref d), some (.int (0 + i)), some (.int i1), some (.int i2), some (.int i3), some (.ref p), ag, ir, du, ti] ∧ Deck d l H' ∧ H' p = some (.lst xs) ∧ xs.length = 3 ∧
        DdAll (fun b => b ≠ d ∧ b ≠ l ∧ b ≠ p) H' xs ds ∧ ∀ e ∈ ds, Sz 31 4 e) ⟨ag, _, _, rfl, D6, e6, rfl, .cons (.int _) (.cons (.int _) (.cons (.int _) .nil)), ?_⟩ (fun j σ H7 hj h => ?_) (fun σ H7 h => ?_)⟩
    · intro e he
      rcases List.mem_cons.mp he with rfl | he
      · exact far _ b1
      rcases List.mem_cons.mp he with rfl | he
      · exact far _ b2
      rcases List.mem_cons.mp he with rfl | he
      · exact far _ b3
      · cases he
    · obtain ⟨ag, xs, ds, rfl, D7, e7, hlen, hd, hz⟩ := h
      have kA : Kp d l H7 H7 := Kp.refl H7
      refine ⟨_, rfl, by show 1 ≤ sizeLine; decide, fun q1 nq1 => ?_⟩
      have DA := D7.new (o := .tup [.int 1]) nq1
      have kA := kA.new (o := .tup [.int 1]) nq1
      have eA : (upd H7 q1 (.tup [.int 1])) q1 = some (.tup [.int 1]) := upd_same
      generalize upd H7 q1 (.tup [.int 1]) = HA at DA kA eA
      refine ⟨by show 1 ≤ sizeLine; decide, fun q2 nq2 => ?_⟩
      have nq2' := kA.back DA nq2
      have DB := DA.new (o := .lst [.int 2]) nq2
      have kB := kA.new (o := .lst [.int 2]) nq2
      have eB1 := Evl.Ex.new (o := .lst [.int 2]) nq2 _ _ eA
      have eB : (upd HA q2 (.lst [.int 2])) q2 = some (.lst [.int 2]) := upd_same
      generalize upd HA q2 (.lst [.int 2]) = HB at DB kB eB1 eB
      refine ⟨_, rfl, d, l, 1, rfl, by decide, DB, fun va ea HC hva zva DC kC => ?_⟩
      have o1 : q1 ≠ d ∧ q1 ≠ l := D7.off nq1
      have o2 : q2 ≠ d ∧ q2 ≠ l := D7.off nq2'
      have eC1 := kC _ _ eB1 o1.1 o1.2
      have eC := kC _ _ eB o2.1 o2.2
      have hva' : Dd (fun b => H7 b = none) HC va ea := hva.mono fun b hb => kB.back DB hb
      refine ⟨by show 8 ≤ sizeLine; decide, fun q3 nq3 => ?_⟩
      have kD := ((kB.trans kC).new (o := .lst [.bl true, .non, .str "1", .ref q1, .ref q2, .int 0, .bl false, va]) nq3)
      refine ⟨d, l, q3, _, rfl, DC.new nq3, upd_same, (DC.off nq3).1, (DC.off nq3).2, by show 0 < 8; decide, by show 8 ≤ 1000; decide, pick_dd (c := 31) (m := 4) (F := fun b => H7 b = none) (DC.new nq3) kD (fun b h => D7.off h) ?_ fun v e HE hv zv DE kE => ?_⟩
      · have sz0 : ∀ {n m : Nat} {x : PyData}, Sz n m x → n ≤ 31 → m ≤ 4 → Sz 31 4 x := fun z h1 h2 => z.mono h1 h2
        refine all_cons ⟨_, .bl _, sz0 (sz_bool _) (by decide) (by decide)⟩ (all_cons ⟨_, .non, sz0 sz_none (by decide) (by decide)⟩ (all_cons ⟨_, .str _, sz0 (sz_str (n := 1) (by decide) (by decide)) (by decide) (by decide)⟩
          (all_cons ⟨_, .tup (Evl.Ex.new nq3 _ _ eC1) (.cons (.int 1) .nil), sz0 (sza_cons (sz_int (by decide)) sza_nil).tuple (by decide) (by decide)⟩ (all_cons ⟨_, .lst nq2' (Evl.Ex.new nq3 _ _ eC) (.cons (.int 2) .nil), sz0 (sza_cons (sz_int (by decide)) sza_nil).list (by decide) (by decide)⟩
          (all_cons ⟨_, .int 0, sz0 (sz_int (by decide)) (by decide) (by decide)⟩ (all_cons ⟨_, .bl _, sz0 (sz_bool _) (by decide) (by decide)⟩ (all_cons ⟨_, hva'.keep (new_keep nq3), sz0 zva (by decide) (by decide)⟩ all_nil)))))))
      refine ⟨_, rfl, _, rfl, d, l, 3, rfl, by decide, by decide, DE, fun n HF n0 n1 DF kF => ?_⟩
      have e8 : HF p = some (.lst xs) := (kE.trans kF) p _ e7 offp.1 offp.2
      refine ⟨p, xs, n, n.toNat, rfl, rfl, e8, by unfold ixN; rw [if_pos n0, hlen, if_pos (by omega)], ?_⟩
      refine ⟨_, xs.set n.toNat v, ds.set n.toNat e, rfl, DF.upd offp, upd_same, by rw [List.length_set]; exact hlen, dd_set _ (hd.keep fun b o eb hb => ?_) ((hv.mono fun b hb => ?_).keep fun b o eb hb => ?_), fun y hy => ?_⟩
      · exact upd_keep e8 (F := fun b => b ≠ d ∧ b ≠ l ∧ b ≠ p) (fun b h => h.2.2) b o (kp_keep D7 (kE.trans kF) (F := fun b => b ≠ d ∧ b ≠ l ∧ b ≠ p) (fun b h => ⟨h.1, h.2.1⟩) b o eb hb) hb
      · exact ⟨(D7.off hb).1, (D7.off hb).2, fun z => by rw [z, e7] at hb; cases hb⟩
      · exact upd_keep e8 (F := fun b => b ≠ d ∧ b ≠ l ∧ b ≠ p) (fun b h => h.2.2) b o (kp_keep DE kF (F := fun b => b ≠ d ∧ b ≠ l ∧ b ≠ p) (fun b h => ⟨h.1, h.2.1⟩) b o eb hb) hb
      · rcases List.mem_or_eq_of_mem_set hy with hy | rfl
        · exact hz y hy
        · exact zv
    · obtain ⟨ag, xs, ds, rfl, D7, e7, hlen, hd, hz⟩ := h
      refine ⟨_, rfl, p, xs, rfl, SqL.of e7, hlen, ?_⟩
      match xs, ds, hlen, hd, hz with
      | [v1, v2, v3], _, _, .cons hv1 (.cons hv2 (.cons hv3 .nil)), hz =>
        refine ⟨_, _, rfl, _, _, rfl, _, _, rfl, rfl, ?_⟩
        exact ⟨_, v1, v2, v3, _, _, _, _, ag, ir, du, ti, rfl, D7, hv1.mono fun b h => ⟨h.1, h.2.1⟩, hv2.mono fun b h => ⟨h.1, h.2.1⟩, hv3.mono fun b h => ⟨h.1, h.2.1⟩, hz _ (by simp), hz _ (by simp), hz _ (by simp)⟩
  · rintro σ4 H4 ⟨t, vx, vy, vw, ex, ey, ew, r, ag, ir, du, ti, rfl, D4, t4⟩
    have szT := sz_three t4.sx t4.sy t4.sw
    refine ⟨Mid2 a d l, ?_, ?_⟩
    · refine ⟨_, rfl, _, rfl, _, rfl, by show 3 ≤ sizeLine; decide, fun p np => ?_⟩
      have x5 : Evl.Ex H4 (upd H4 p (.tup [vx, vy, vw])) := Evl.Ex.new np
      have e5 : (upd H4 p (.tup [vx, vy, vw])) p = some (.tup [vx, vy, vw]) := upd_same
      generalize upd H4 p (.tup [vx, vy, vw]) = H5 at x5 e5
      have t5 := t4.keep (ex_keep x5)
      refine ⟨.ref p, off d l, .tuple [ex, ey, ew], 3, _, _, rfl, .tup e5 (dd_three t5.x t5.y t5.w), szT, by decide, fun H6 x6 => ⟨_, rfl, ite2 (fun h => ?_) (fun h => ?_)⟩⟩
      · obtain ⟨i, j, k, rfl, rfl, rfl⟩ := isInts3_xyw h
        obtain rfl := dd_int t4.w
        refine ⟨_, rfl, rfl, ?_⟩
        refine ⟨t, vx, vy, _, _, _, _, r, ag, _, du, ti, rfl, D4.ex' (x5.trans x6), t4.keep (ex_keep (x5.trans x6)), fun h => ⟨i, j, k, rfl, rfl, rfl, fun z => ?_⟩, fun h => ?_⟩
        · rw [z] at h
          exact absurd h (by decide)
        · have z : k = 0 := by
            refine Decidable.byContradiction fun z => ?_
            rw [decide_eq_false (fun e => z (V.int.inj e))] at h
            cases h
          subst z
          exact xyw_zero
      · exact ⟨t, vx, vy, vw, _, _, _, r, ag, false, du, ti, rfl, D4.ex' (x5.trans x6), t4.keep (ex_keep (x5.trans x6)), (fun h => by cases h), fun _ => xyw_not h⟩
    rintro σ5 H5 ⟨t, vx, vy, vw, ex, ey, ew, r, ag, b, du, ti, rfl, D5, t5, ib, in_⟩
    refine ⟨Mid3 a d l, ?_, ?_⟩
    · cases b with
      | true =>
        obtain ⟨i, j, k, rfl, rfl, rfl, h0⟩ := ib rfl
        obtain rfl := dd_int t5.x
        obtain rfl := dd_int t5.y
        obtain rfl := dd_int t5.w
        refine ⟨_, rfl, true, rfl, iteT ⟨_, rfl, _, rfl, _, rfl, i, j, k, rfl, h0, Nat.lt_of_lt_of_le (lt_log (sh_int t5.sw.sh)) (Nat.pow_le_pow_right (by decide) (by decide)), fun p H6 np x6 ep => ⟨by show 2 ≤ sizeLine; decide, fun q nq => ?_⟩⟩⟩
        have x7 := x6.trans (Evl.Ex.new (o := .tup [.str "told", .ref p]) nq)
        exact ⟨t, _, _, _, _, _, _, r, ag, true, .ref q, toldY i j k, ti, rfl, D5.ex' x7, t5.keep (ex_keep x7), ib, .inl ⟨i, j, k, rfl, rfl, rfl, h0, rfl⟩, .tup upd_same (.cons (.str _) (.cons (.tup (Evl.Ex.new nq _ _ ep) (dd_ints _)) .nil))⟩
      | false =>
        refine ⟨_, rfl, false, rfl, iteF ⟨_, rfl, _, rfl, _, rfl, by show 3 ≤ sizeLine; decide, fun p np => ⟨by show 3 ≤ sizeLine; decide, fun q nq => ?_⟩⟩⟩
        have x6 : Evl.Ex H5 (upd H5 p (.tup [vx, vy, vw])) := Evl.Ex.new np
        have x7 := x6.trans (Evl.Ex.new (o := .tup [.str "none", .ref p, .bl true]) nq)
        have t7 := t5.keep (ex_keep x7)
        exact ⟨t, _, _, _, _, _, _, r, ag, false, .ref q, toldN ex ey ew, ti, rfl, D5.ex' x7, t7, ib, .inr ⟨in_ rfl, rfl⟩, .tup upd_same (.cons (.str _) (.cons (.tup (Evl.Ex.new nq _ _ upd_same) (dd_three t7.x t7.y t7.w)) (.cons (.bl _) .nil)))⟩
    rintro σ6 H6 ⟨t, vx, vy, vw, ex, ey, ew, r, ag, b, dv, D, ti, rfl, D6, t6, ib, hD, hdv⟩
    have szD := sz_due hD t6.sx t6.sy t6.sw
    have szP : Sz 7000 50 (.tuple [D, D]) := ((sza_cons szD (sza_cons szD sza_nil)).tuple).mono (by decide) (by decide)
    refine ⟨_, rfl, _, rfl, _, rfl, told_go (E := E0) t6 hD fun v1 H7 x7 hv1 => ⟨_, rfl, _, rfl, _, rfl, told_go (E := E0) (t6.keep (ex_keep x7)) hD fun v2 H8 x8 hv2 => ?_⟩⟩
    refine ⟨by show 2 ≤ sizeLine; decide, fun p np => ?_⟩
    have x9 := (x7.trans x8).trans (Evl.Ex.new (o := .tup [v1, v2]) np)
    have xp := Evl.Ex.new (o := .tup [v1, v2]) np
    refine ⟨_, off d l, .tuple [D, D], rfl, .tup upd_same (.cons (hv1.keep (ex_keep (x8.trans xp))) (.cons (hv2.keep (ex_keep xp)) .nil)), szP, ?_⟩
    have D9 := D6.ex' x9
    have t9 := t6.keep (ex_keep x9)
    have d9 := hdv.keep (ex_keep x9)
    generalize upd H8 p (.tup [v1, v2]) = H9 at x9 D9 t9 d9
    refine ⟨_, rfl, _, rfl, by show 2 ≤ sizeLine; decide, fun q nq => ?_⟩
    have xA := Evl.Ex.new (o := .tup [dv, dv]) nq
    refine ⟨_, off d l, .tuple [D, D], rfl, .tup upd_same (.cons (d9.keep (ex_keep xA)) (.cons (d9.keep (ex_keep xA)) .nil)), szP, ?_⟩
    have DA := D9.ex' xA
    have tA' := t9.keep (ex_keep xA)
    have dA := d9.keep (ex_keep xA)
    generalize upd H9 q (.tup [dv, dv]) = HA at DA tA' dA
    refine ⟨rfl, _, rfl, ?_⟩
    rw [str_same]
    refine iteF ⟨_, rfl, b, rfl, ?_⟩
    cases b with
    | false => exact iteF ⟨_, _, _, _, _, _, _, _, _, rfl, DA⟩
    | true =>
      obtain ⟨i, j, k, rfl, rfl, rfl, h0⟩ := ib rfl
      obtain rfl := dd_int tA'.x
      obtain rfl := dd_int tA'.y
      obtain rfl := dd_int tA'.w
      have eD : D = toldY i j k := by
        rcases hD with ⟨i', j', k', f1, f2, f3, _, rfl⟩ | ⟨nx, _⟩
        · cases f1
          cases f2
          cases f3
          rfl
        · exact absurd ⟨i, j, k, rfl, rfl, rfl, h0⟩ nx
      subst eD
      refine iteT ⟨_, rfl, 1, rfl, 3, rfl, by show 4 ≤ sizeLine; decide, fun p np => ⟨d, l, p, _, rfl, DA.new np, upd_same, (DA.off np).1, (DA.off np).2, by show 0 < 4; decide, by show 4 ≤ 1000; decide, fun n v HB hv DB kB => ?_⟩⟩
      have hT : ∃ t : Int, v = .int t ∧ t ≠ 0 ∧ t.natAbs ≤ 7 :=
        all_cons (p := fun v => ∃ t : Int, v = .int t ∧ t ≠ 0 ∧ t.natAbs ≤ 7) ⟨_, rfl, by decide, by decide⟩ (all_cons ⟨_, rfl, by decide, by decide⟩ (all_cons ⟨_, rfl, by decide, by decide⟩ (all_cons ⟨_, rfl, by decide, by decide⟩ all_nil))) v (List.mem_of_getElem? hv)
      obtain ⟨z, rfl, hz0, hz7⟩ := hT
      have kB' := (Kp.refl (d := d) (l := l) HA).new (o := .lst [.int 2, .int (-1), .int 7, .int (-3)]) np
      have kB := kB'.trans kB
      have kk := kp_keep (F := off d l) DA kB fun b h => h
      obtain ⟨pd, pq, rfl, epd, epq⟩ := dd_toldY (dA.keep kk)
      have szQ := sz_placeOf t6.sx t6.sy t6.sw
      have at1 : atI [V.str "told", V.ref pq] 1 = some (.ref pq) := atI_nat (j := 1) rfl
      refine ⟨_, rfl, pd, _, 1, _, rfl, rfl, SqT.of epd, at1, .ref pq, off d l, .tuple ((placeOf i j k).map .int), 3, 1, rfl, .tup epq (dd_ints _), szQ, by decide, fun HC xC => ?_⟩
      rw [isPlace_placeOf h0]
      refine ⟨true, true, rfl, rfl, _, rfl, iteF ?_⟩
      have hW : k.natAbs < 2 ^ 2000 := lt_log (sh_int t6.sw.sh)
      refine ⟨_, rfl, _, rfl, i, z, rfl, rfl, .inr ⟨by omega, by omega⟩, _, rfl, _, rfl, j, z, rfl, rfl, .inr ⟨by omega, by omega⟩, _, rfl, _, rfl, k, z, rfl, rfl, .inr ⟨by omega, by omega⟩, ?_⟩
      refine ⟨_, _, _, fun _ => True, _, _, _, rfl, .int _, .int _, .int _, by simp [PyData.bulk], by simp [PyData.bulk], by simp [PyData.bulk], fun x' y' w' f1 f2 f3 _ => ⟨?_, fun p2 HD n2 xD eD => ?_⟩, fun nx => absurd ⟨_, _, _, rfl, rfl, rfl, Int.mul_ne_zero h0 hz0⟩ nx⟩
      · cases f3
        exact Nat.lt_of_lt_of_le (wide_lt hW (show z.natAbs < 2 ^ 3 by omega)) (Nat.pow_le_pow_right (by decide) (by decide))
      · cases f1
        cases f2
        cases f3
        rw [placeOf_mul h0 hz0] at eD
        refine ⟨_, fun _ => True, .tuple ((placeOf i j k).map .int), rfl, .tup eD (dd_ints _), szQ.mono (by decide) (by decide), ?_⟩
        refine ⟨_, rfl, pd, _, 1, _, rfl, rfl, SqT.of (xD _ _ (xC _ _ epd)), at1, _, fun _ => True, .tuple ((placeOf i j k).map .int), rfl, .tup (xD _ _ (xC _ _ epq)) (dd_ints _), szQ.mono (by decide) (by decide), ?_⟩
        refine ⟨rfl, _, rfl, ?_⟩
        rw [str_same]
        exact iteF ⟨_, _, _, _, _, _, _, _, _, rfl, DB.ex' (xC.trans xD)⟩
end
end Ey
namespace Ey
open PySem PySem.Spec PyProof.Rows L2
/-! ### what the top has written; the end -/
theorem at_mk {K : PySem.W.Frag} {h : Heap} {mg : Str → Option Value} {x : Str} {st : Stmt} {f : Addr} {oc : Value} {od an : Option Addr} {sl : Array (Option Value)} {kV dc pm cd ct : Value} (X : K.In h) (G : h.Ns mainGlobals mg)
    (a : PySem.W.nsIn K mainGlobals x = some (some (.ref f))) (l : K.lookup f = some ⟨oc, od, .func (PySem.W.fnOf x x (defArgs st) (defBody st) (defScope st) .none kV dc pm an cd ct), sl⟩) (c : PySem.W.codeIn K cd x = true) (k : PySem.W.keepIn K (.ref f) = true) : At K mg x st :=
  ⟨f, _, fun_mk l c k, PySem.W.mg_of X G a⟩
/-- the first def of a class -/
def clsIni : Stmt → Stmt
  | .ClassDef (body := b) .. => b.getD 0 (.Pass ⟨0, 0, 0, 0⟩)
  | s => s
theorem all_mk {P : Program} {w : World} {K : PySem.W.Frag} {h : Heap} {mg : Str → Option Value} {fa : Addr} (X : K.In h) (G : h.Ns mainGlobals mg) (hfa : mg "law" = some (.ref fa))
    {f0 : Addr} {oc0 : Value} {od0 an0 : Option Addr} {sl0 : Array (Option Value)} {kV0 dc0 pm0 cd0 ct0 : Value}
    {f1 : Addr} {oc1 : Value} {od1 an1 : Option Addr} {sl1 : Array (Option Value)} {kV1 dc1 pm1 cd1 ct1 : Value}
    {f2 : Addr} {oc2 : Value} {od2 an2 : Option Addr} {sl2 : Array (Option Value)} {kV2 dc2 pm2 cd2 ct2 : Value}
    {f3 : Addr} {oc3 : Value} {od3 an3 : Option Addr} {sl3 : Array (Option Value)} {kV3 dc3 pm3 cd3 ct3 : Value}
    {f4 : Addr} {oc4 : Value} {od4 an4 : Option Addr} {sl4 : Array (Option Value)} {kV4 dc4 pm4 cd4 ct4 : Value}
    {f5 : Addr} {oc5 : Value} {od5 an5 : Option Addr} {sl5 : Array (Option Value)} {kV5 dc5 pm5 cd5 ct5 : Value}
    {f6 : Addr} {oc6 : Value} {od6 an6 : Option Addr} {sl6 : Array (Option Value)} {kV6 dc6 pm6 cd6 ct6 : Value}
    {f7 : Addr} {oc7 : Value} {od7 an7 : Option Addr} {sl7 : Array (Option Value)} {kV7 dc7 pm7 cd7 ct7 : Value}
    {f8 : Addr} {oc8 : Value} {od8 an8 : Option Addr} {sl8 : Array (Option Value)} {kV8 dc8 pm8 cd8 ct8 : Value}
    {f9 : Addr} {oc9 : Value} {od9 an9 : Option Addr} {sl9 : Array (Option Value)} {kV9 dc9 pm9 cd9 ct9 : Value}
    {f10 : Addr} {oc10 : Value} {od10 an10 : Option Addr} {sl10 : Array (Option Value)} {kV10 dc10 pm10 cd10 ct10 : Value}
    {f11 : Addr} {oc11 : Value} {od11 an11 : Option Addr} {sl11 : Array (Option Value)} {kV11 dc11 pm11 cd11 ct11 : Value}
    {f12 : Addr} {oc12 : Value} {od12 an12 : Option Addr} {sl12 : Array (Option Value)} {kV12 dc12 pm12 cd12 ct12 : Value}
    {f13 : Addr} {oc13 : Value} {od13 an13 : Option Addr} {sl13 : Array (Option Value)} {kV13 dc13 pm13 cd13 ct13 : Value}
    {f14 : Addr} {oc14 : Value} {od14 an14 : Option Addr} {sl14 : Array (Option Value)} {kV14 dc14 pm14 cd14 ct14 : Value}
    {f15 : Addr} {oc15 : Value} {od15 an15 : Option Addr} {sl15 : Array (Option Value)} {kV15 dc15 pm15 cd15 ct15 : Value}
    {f16 : Addr} {oc16 : Value} {od16 an16 : Option Addr} {sl16 : Array (Option Value)} {kV16 dc16 pm16 cd16 ct16 : Value}
    (a0 : PySem.W.nsIn K mainGlobals "is_integer" = some (some (.ref f0))) (l0 : K.lookup f0 = some ⟨oc0, od0, .func (PySem.W.fnOf "is_integer" "is_integer" (defArgs sIsInt) (defBody sIsInt) (defScope sIsInt) .none kV0 dc0 pm0 an0 cd0 ct0), sl0⟩) (c0 : PySem.W.codeIn K cd0 "is_integer" = true) (k0 : PySem.W.keepIn K (.ref f0) = true)
    (a1 : PySem.W.nsIn K mainGlobals "is_tuple_of_integers" = some (some (.ref f1))) (l1 : K.lookup f1 = some ⟨oc1, od1, .func (PySem.W.fnOf "is_tuple_of_integers" "is_tuple_of_integers" (defArgs sIsTup) (defBody sIsTup) (defScope sIsTup) .none kV1 dc1 pm1 an1 cd1 ct1), sl1⟩) (c1 : PySem.W.codeIn K cd1 "is_tuple_of_integers" = true) (k1 : PySem.W.keepIn K (.ref f1) = true)
    (a2 : PySem.W.nsIn K mainGlobals "is_place" = some (some (.ref f2))) (l2 : K.lookup f2 = some ⟨oc2, od2, .func (PySem.W.fnOf "is_place" "is_place" (defArgs sIsPlace) (defBody sIsPlace) (defScope sIsPlace) .none kV2 dc2 pm2 an2 cd2 ct2), sl2⟩) (c2 : PySem.W.codeIn K cd2 "is_place" = true) (k2 : PySem.W.keepIn K (.ref f2) = true)
    (a3 : PySem.W.nsIn K mainGlobals "place" = some (some (.ref f3))) (l3 : K.lookup f3 = some ⟨oc3, od3, .func (PySem.W.fnOf "place" "place" (defArgs sPlace) (defBody sPlace) (defScope sPlace) .none kV3 dc3 pm3 an3 cd3 ct3), sl3⟩) (c3 : PySem.W.codeIn K cd3 "place" = true) (k3 : PySem.W.keepIn K (.ref f3) = true)
    (a4 : PySem.W.nsIn K mainGlobals "reduced" = some (some (.ref f4))) (l4 : K.lookup f4 = some ⟨oc4, od4, .func (PySem.W.fnOf "reduced" "reduced" (defArgs sRed) (defBody sRed) (defScope sRed) .none kV4 dc4 pm4 an4 cd4 ct4), sl4⟩) (c4 : PySem.W.codeIn K cd4 "reduced" = true) (k4 : PySem.W.keepIn K (.ref f4) = true)
    (a5 : PySem.W.nsIn K mainGlobals "_law_deck" = some (some (.ref f5))) (l5 : K.lookup f5 = some ⟨oc5, od5, .func (PySem.W.fnOf "_law_deck" "_law_deck" (defArgs sDeck) (defBody sDeck) (defScope sDeck) .none kV5 dc5 pm5 an5 cd5 ct5), sl5⟩) (c5 : PySem.W.codeIn K cd5 "_law_deck" = true) (k5 : PySem.W.keepIn K (.ref f5) = true)
    (a6 : PySem.W.nsIn K mainGlobals "_law_draw" = some (some (.ref f6))) (l6 : K.lookup f6 = some ⟨oc6, od6, .func (PySem.W.fnOf "_law_draw" "_law_draw" (defArgs sDraw) (defBody sDraw) (defScope sDraw) .none kV6 dc6 pm6 an6 cd6 ct6), sl6⟩) (c6 : PySem.W.codeIn K cd6 "_law_draw" = true) (k6 : PySem.W.keepIn K (.ref f6) = true)
    (a7 : PySem.W.nsIn K mainGlobals "_law_pick" = some (some (.ref f7))) (l7 : K.lookup f7 = some ⟨oc7, od7, .func (PySem.W.fnOf "_law_pick" "_law_pick" (defArgs sPick) (defBody sPick) (defScope sPick) .none kV7 dc7 pm7 an7 cd7 ct7), sl7⟩) (c7 : PySem.W.codeIn K cd7 "_law_pick" = true) (k7 : PySem.W.keepIn K (.ref f7) = true)
    (a8 : PySem.W.nsIn K mainGlobals "_law_is_integer" = some (some (.ref f8))) (l8 : K.lookup f8 = some ⟨oc8, od8, .func (PySem.W.fnOf "_law_is_integer" "_law_is_integer" (defArgs sLIsInt) (defBody sLIsInt) (defScope sLIsInt) .none kV8 dc8 pm8 an8 cd8 ct8), sl8⟩) (c8 : PySem.W.codeIn K cd8 "_law_is_integer" = true) (k8 : PySem.W.keepIn K (.ref f8) = true)
    (a9 : PySem.W.nsIn K mainGlobals "_law_any" = some (some (.ref f9))) (l9 : K.lookup f9 = some ⟨oc9, od9, .func (PySem.W.fnOf "_law_any" "_law_any" (defArgs sAny) (defBody sAny) (defScope sAny) .none kV9 dc9 pm9 an9 cd9 ct9), sl9⟩) (c9 : PySem.W.codeIn K cd9 "_law_any" = true) (k9 : PySem.W.keepIn K (.ref f9) = true)
    (a10 : PySem.W.nsIn K mainGlobals "_law_are_integers" = some (some (.ref f10))) (l10 : K.lookup f10 = some ⟨oc10, od10, .func (PySem.W.fnOf "_law_are_integers" "_law_are_integers" (defArgs sLAre) (defBody sLAre) (defScope sLAre) .none kV10 dc10 pm10 an10 cd10 ct10), sl10⟩) (c10 : PySem.W.codeIn K cd10 "_law_are_integers" = true) (k10 : PySem.W.keepIn K (.ref f10) = true)
    (a11 : PySem.W.nsIn K mainGlobals "_law_divisor" = some (some (.ref f11))) (l11 : K.lookup f11 = some ⟨oc11, od11, .func (PySem.W.fnOf "_law_divisor" "_law_divisor" (defArgs sDiv) (defBody sDiv) (defScope sDiv) .none kV11 dc11 pm11 an11 cd11 ct11), sl11⟩) (c11 : PySem.W.codeIn K cd11 "_law_divisor" = true) (k11 : PySem.W.keepIn K (.ref f11) = true)
    (a12 : PySem.W.nsIn K mainGlobals "_law_least" = some (some (.ref f12))) (l12 : K.lookup f12 = some ⟨oc12, od12, .func (PySem.W.fnOf "_law_least" "_law_least" (defArgs sLeast) (defBody sLeast) (defScope sLeast) .none kV12 dc12 pm12 an12 cd12 ct12), sl12⟩) (c12 : PySem.W.codeIn K cd12 "_law_least" = true) (k12 : PySem.W.keepIn K (.ref f12) = true)
    (a13 : PySem.W.nsIn K mainGlobals "_law_place" = some (some (.ref f13))) (l13 : K.lookup f13 = some ⟨oc13, od13, .func (PySem.W.fnOf "_law_place" "_law_place" (defArgs sLPlace) (defBody sLPlace) (defScope sLPlace) .none kV13 dc13 pm13 an13 cd13 ct13), sl13⟩) (c13 : PySem.W.codeIn K cd13 "_law_place" = true) (k13 : PySem.W.keepIn K (.ref f13) = true)
    (a14 : PySem.W.nsIn K mainGlobals "_law_told" = some (some (.ref f14))) (l14 : K.lookup f14 = some ⟨oc14, od14, .func (PySem.W.fnOf "_law_told" "_law_told" (defArgs sTold) (defBody sTold) (defScope sTold) .none kV14 dc14 pm14 an14 cd14 ct14), sl14⟩) (c14 : PySem.W.codeIn K cd14 "_law_told" = true) (k14 : PySem.W.keepIn K (.ref f14) = true)
    (a15 : PySem.W.nsIn K mainGlobals "_law_number" = some (some (.ref f15))) (l15 : K.lookup f15 = some ⟨oc15, od15, .func (PySem.W.fnOf "_law_number" "_law_number" (defArgs sNum) (defBody sNum) (defScope sNum) .none kV15 dc15 pm15 an15 cd15 ct15), sl15⟩) (c15 : PySem.W.codeIn K cd15 "_law_number" = true) (k15 : PySem.W.keepIn K (.ref f15) = true)
    (a16 : PySem.W.nsIn K mainGlobals "law" = some (some (.ref f16))) (l16 : K.lookup f16 = some ⟨oc16, od16, .func (PySem.W.fnOf "law" "law" (defArgs sLaw) (defBody sLaw) (defScope sLaw) .none kV16 dc16 pm16 an16 cd16 ct16), sl16⟩) (c16 : PySem.W.codeIn K cd16 "law" = true) (k16 : PySem.W.keepIn K (.ref f16) = true)
    (aB0 : PySem.W.nsIn K mainGlobals "EyeError" = some (some (.ref B0)))
    (aC0 : PySem.W.nsIn K mainGlobals "BadPlace" = some (some (.ref C0)))
    (xL0 : K.lookup C0 = some (excClassObj nm0 q0 C0 N0 bs0 (.ref B0 :: ESX.exTail) true sn0 sub0 ab0 col0 dd0 x00 x10 x20 x30 x50 "Exception.__new__"))
    (su0 : PySem.W.alongIn K "__init__" (.ref B0 :: ESX.exTail) = some (some (.builtin "Exception.__init__")))
    (sa0 : PySem.W.findIn K (.ref C0) "__setattr__" = some (some (.builtin "object.__setattr__")))
    (ga0 : PySem.W.findIn K (.ref C0) "__getattribute__" = some (some (.builtin "BaseException.__getattribute__")))
    (gt0 : PySem.W.findIn K (.ref C0) "__getattr__" = some none)
    (nf0 : PySem.W.findIn K (.ref C0) "thing" = some none)
    (iC0 : PySem.W.findIn K (.ref C0) "__init__" = some (some (.ref I0)))
    (tI0 : PySem.W.typeIn K (.ref I0) = some (.type "function"))
    (kC0 : PySem.W.keepIn K (.ref C0) = true)
    (eC0 : PySem.W.subIn K (.ref C0) (.type "BaseException") = some true)
    (eE0 : PySem.W.subIn K (.ref C0) (.type "Exception") = some true)
    (tC0 : PySem.W.typeIn K (.ref C0) = some (.type "type"))
    (hC0 : PySem.W.hasDictIn K C0 = true)
    (sC0 : PySem.W.subIn K (.ref C0) (.ref C0) = some true)
    (lI0 : K.lookup I0 = some ⟨ocI0, odI0, .func (PySem.W.ksFn "__init__" "BadPlace.__init__" (defArgs (clsIni (topS 3))) (defBody (clsIni (topS 3))) (defScope (clsIni (topS 3))) .none .none dcI0 pmI0 anI0 (.ref cda0) ctI0 cc0), slI0⟩)
    (cI0 : PySem.W.codeIn K (.ref cda0) "BadPlace.__init__" = true)
    (lc0 : K.lookup cc0 = some ⟨cl0, cld0, .cell (some (.ref C0)), csl0⟩)
    (lk0 : K.lookup cda0 = some ⟨ccl0, cdd0, .fields vs0, ccs0⟩)
    (hv0 : vs0[2]? = some (.str file0 tf0))
    (hf0 : ((P.main.file : Str) == file0) = true)
    (ha0 : PySem.W.findIn K (.ref C0) "__class__" = some (some (.builtin "object.__class__")))
    (hm0 : PySem.W.mroIn K C0 (.type "object") = some true)
    (ki0 : PySem.W.kitOne K (.ref C0) (.ref B0) = some true)
    (zsup : PySem.W.nsIn K mainGlobals "super" = some none)
    (htop : (P.main.scope.names.lookup ("super" : Str)).isSome = false)
    (opq : PySem.W.nsIn K PySem.cStatics "thirdparty.any" = some none)
    (sp0 : PySem.W.specialIn K (.builtin "object.__class__") "__get__" = some (some (.builtin "getset_descriptor.__get__")))
    (tk0 : PySem.W.takesIn K (.builtin "object.__class__") = some true)
    (z0 : PySem.W.nsIn K mainGlobals "int" = some none) (z1 : PySem.W.nsIn K mainGlobals "max" = some none) (z2 : PySem.W.nsIn K mainGlobals "len" = some none) (z3 : PySem.W.nsIn K mainGlobals "list" = some none) (z4 : PySem.W.nsIn K mainGlobals "range" = some none) (z5 : PySem.W.nsIn K mainGlobals "tuple" = some none) (z6 : PySem.W.nsIn K mainGlobals "isinstance" = some none) (z7 : PySem.W.nsIn K mainGlobals "bool" = some none) (z8 : PySem.W.nsIn K mainGlobals "abs" = some none) (z9 : PySem.W.nsIn K mainGlobals "repr" = some none) (z10 : PySem.W.nsIn K mainGlobals "str" = some none) (z11 : PySem.W.nsIn K mainGlobals "all" = some none)
    (zg : PySem.W.nsIn K mainGlobals "gcd" = some (some (.builtin "math.gcd"))) : ∀ base : Heap, K.In base → base.Ns mainGlobals mg → LawOk P w K mg base fa := by
  intro base _ _
  have T : Blt mg := ⟨PySem.W.mg_none_of X G z0, PySem.W.mg_none_of X G z1, PySem.W.mg_none_of X G z2, PySem.W.mg_none_of X G z3, PySem.W.mg_none_of X G z4, PySem.W.mg_none_of X G z5, PySem.W.mg_none_of X G z6, PySem.W.mg_none_of X G z7, PySem.W.mg_none_of X G z8, PySem.W.mg_none_of X G z9, PySem.W.mg_none_of X G z10, PySem.W.mg_none_of X G z11⟩
  have gg := PySem.W.mg_of X G zg
  have S_is_integer : At K mg "is_integer" sIsInt := at_mk X G a0 l0 c0 k0
  have S_is_tuple_of_integers : At K mg "is_tuple_of_integers" sIsTup := at_mk X G a1 l1 c1 k1
  have S_is_place : At K mg "is_place" sIsPlace := at_mk X G a2 l2 c2 k2
  have S_place : At K mg "place" sPlace := at_mk X G a3 l3 c3 k3
  have S_reduced : At K mg "reduced" sRed := at_mk X G a4 l4 c4 k4
  have S__law_deck : At K mg "_law_deck" sDeck := at_mk X G a5 l5 c5 k5
  have S__law_draw : At K mg "_law_draw" sDraw := at_mk X G a6 l6 c6 k6
  have S__law_pick : At K mg "_law_pick" sPick := at_mk X G a7 l7 c7 k7
  have S__law_is_integer : At K mg "_law_is_integer" sLIsInt := at_mk X G a8 l8 c8 k8
  have S__law_any : At K mg "_law_any" sAny := at_mk X G a9 l9 c9 k9
  have S__law_are_integers : At K mg "_law_are_integers" sLAre := at_mk X G a10 l10 c10 k10
  have S__law_divisor : At K mg "_law_divisor" sDiv := at_mk X G a11 l11 c11 k11
  have S__law_least : At K mg "_law_least" sLeast := at_mk X G a12 l12 c12 k12
  have S__law_place : At K mg "_law_place" sLPlace := at_mk X G a13 l13 c13 k13
  have S__law_told : At K mg "_law_told" sTold := at_mk X G a14 l14 c14 k14
  have S__law_number : At K mg "_law_number" sNum := at_mk X G a15 l15 c15 k15
  obtain ⟨fL, fdL, FL, gL⟩ : ∃ (f : Addr) (fd : FuncData), Fun K "law" "law" sLaw f fd ∧ mg "law" = some (.ref f) := (at_mk X G a16 l16 c16 k16 : At K mg "law" sLaw).ex
  cases gL.symm.trans hfa
  have te0 : PySem.W.exmOne K (.ref C0) (.ref C0) = some true := PySem.W.exm_ref eC0 hC0 tC0 sC0
  have X0 : L2.ExcC K C0 := ⟨ga0, gt0, eC0, hC0, ha0, sp0, tk0, hm0⟩
  have gB0 := PySem.W.mg_of X G aB0
  have E0 : ErrTxt P K mg "BadPlace" "thing" C0 B0 I0 :=
    { gC := PySem.W.mg_of X G aC0, cls := ⟨_, _, _, _, _, _, _, _, _, _, _, _, _, _, xL0⟩, su := su0, sa := sa0, ga := ga0, gg := gt0, noN := nf0, iC := iC0, tC := tI0, kC := kC0, exC := eC0, exE := eE0, tyC := tC0, hdC := hC0,
      fs := by decide, fsu := by decide, fcl := by decide, fdb := by decide, nsup := PySem.W.mg_none_of X G zsup, top := htop, opq := opq,
      fn := ⟨_, _, _, _, _, _, _, _, _, _, _, _, _, _, _, _, _, _, _, _, _, _, _, _, lI0, cI0, fun _ _ _ => .of_eq rfl, ⟨_, _, _, lc0⟩, ⟨_, _, _, _, _, _, lk0, hv0, hf0⟩, fun _ => ⟨_, rfl⟩⟩ }
  have GD := fk_draw (P := P) (w := w) (base := base) S__law_draw T
  have GP := fk_pick S__law_pick T GD
  have GK := fk_deck (P := P) (w := w) (base := base) S__law_deck T
  have GI := fk_isInt (P := P) (w := w) (base := base) S_is_integer T
  have LI := fk_lIsInt (P := P) (w := w) (base := base) S__law_is_integer T
  have LT := fk_lAre S__law_are_integers T LI
  have LD := fk_div (P := P) (w := w) (base := base) S__law_divisor T
  have GA := fk_any S__law_any T GD GP
  have GR := fk_red (P := P) (w := w) (base := base) S_reduced gg
  have GQ := fk_place S_place E0 (fk_isTupB S_is_tuple_of_integers T GI) GR
  have kw : KwOf K "place" sPlace ["x", "y", "w"] ["w", "y", "x"] [2, 1, 0] := fun f fd F s ws _ hl => by
    obtain ⟨oc, od, kV, doc, pm, an, cdv, ct, osl, rfl, _, _⟩ := F.ex
    match ws, hl with
    | [u, v, x], _ => exact .of_eq rfl
  exact law_ok FL T GK GD GP (GA 1) (fk_num S__law_number T GD GP) LT (fk_lPlace S__law_place (fk_least S__law_least T LD)) (fk_told S__law_told T E0 X0 te0 ki0 gB0 S_place kw GQ) (fk_isPlace S_is_place gg (fk_isTup S_is_tuple_of_integers T GI)) GQ
end Ey
open PySem PySem.W PyProof.Rows
set_option maxHeartbeats 0 in
theorem PySem.Challenge.cw_eyeorder_k02_places_by_coordinates_holds : PySem.Challenge.rw_eyeorder_k02_places_by_coordinates.Holds := by
  w_on; o_law; k_head; (case hw => w_witness2)
  k_fill
  refine Ey.walk_at (l := PySem.Challenge.rw_eyeorder_k02_places_by_coordinates) rfl rfl (fun w h Y => PySem.W.kIn_of Y) ?F
  case F =>
    intro w mg fa h KX G hmg
    refine' Ey.all_mk KX G hmg ?a0 ?l0 ?c0 ?k0 ?a1 ?l1 ?c1 ?k1 ?a2 ?l2 ?c2 ?k2 ?a3 ?l3 ?c3 ?k3 ?a4 ?l4 ?c4 ?k4 ?a5 ?l5 ?c5 ?k5 ?a6 ?l6 ?c6 ?k6 ?a7 ?l7 ?c7 ?k7 ?a8 ?l8 ?c8 ?k8 ?a9 ?l9 ?c9 ?k9 ?a10 ?l10 ?c10 ?k10 ?a11 ?l11 ?c11 ?k11 ?a12 ?l12 ?c12 ?k12 ?a13 ?l13 ?c13 ?k13 ?a14 ?l14 ?c14 ?k14 ?a15 ?l15 ?c15 ?k15 ?a16 ?l16 ?c16 ?k16 ?aB0 ?aC0 ?xL0 ?su0 ?sa0 ?ga0 ?gt0 ?nf0 ?iC0 ?tI0 ?kC0 ?eC0 ?eE0 ?tC0 ?hC0 ?sC0 ?lI0 ?cI0 ?lc0 ?lk0 ?hv0 ?hf0 ?ha0 ?hm0 ?ki0 ?zsup ?htop ?opq ?sp0 ?tk0 ?z0 ?z1 ?z2 ?z3 ?z4 ?z5 ?z6 ?z7 ?z8 ?z9 ?z10 ?z11 ?zg
    (case a0 => k_is)
    (case l0 => k_is)
    (case c0 => k_is)
    (case k0 => k_is)
    (case a1 => k_is)
    (case l1 => k_is)
    (case c1 => k_is)
    (case k1 => k_is)
    (case a2 => k_is)
    (case l2 => k_is)
    (case c2 => k_is)
    (case k2 => k_is)
    (case a3 => k_is)
    (case l3 => k_is)
    (case c3 => k_is)
    (case k3 => k_is)
    (case a4 => k_is)
    (case l4 => k_is)
    (case c4 => k_is)
    (case k4 => k_is)
    (case a5 => k_is)
    (case l5 => k_is)
    (case c5 => k_is)
    (case k5 => k_is)
    (case a6 => k_is)
    (case l6 => k_is)
    (case c6 => k_is)
    (case k6 => k_is)
    (case a7 => k_is)
    (case l7 => k_is)
    (case c7 => k_is)
    (case k7 => k_is)
    (case a8 => k_is)
    (case l8 => k_is)
    (case c8 => k_is)
    (case k8 => k_is)
    (case a9 => k_is)
    (case l9 => k_is)
    (case c9 => k_is)
    (case k9 => k_is)
    (case a10 => k_is)
    (case l10 => k_is)
    (case c10 => k_is)
    (case k10 => k_is)
    (case a11 => k_is)
    (case l11 => k_is)
    (case c11 => k_is)
    (case k11 => k_is)
    (case a12 => k_is)
    (case l12 => k_is)
    (case c12 => k_is)
    (case k12 => k_is)
    (case a13 => k_is)
    (case l13 => k_is)
    (case c13 => k_is)
    (case k13 => k_is)
    (case a14 => k_is)
    (case l14 => k_is)
    (case c14 => k_is)
    (case k14 => k_is)
    (case a15 => k_is)
    (case l15 => k_is)
    (case c15 => k_is)
    (case k15 => k_is)
    (case a16 => k_is)
    (case l16 => k_is)
    (case c16 => k_is)
    (case k16 => k_is)
    (case aB0 => k_is)
    (case aC0 => k_is)
    (case xL0 => k_is)
    (case su0 => first | k_is | kernel_rfl)
    (case sa0 => k_is)
    (case ga0 => k_is)
    (case gt0 => k_is)
    (case nf0 => k_is)
    (case iC0 => k_is)
    (case tI0 => k_is)
    (case kC0 => k_is)
    (case eC0 => k_is)
    (case eE0 => k_is)
    (case tC0 => k_is)
    (case hC0 => k_is)
    (case sC0 => first | rfl | k_is)
    (case lI0 => k_is)
    (case cI0 => k_is)
    (case lc0 => k_is)
    (case lk0 => k_is)
    (case hv0 => rfl)
    (case hf0 => first | rfl | decide +kernel)
    (case ha0 => k_is)
    (case hm0 => k_is)
    (case ki0 => first | k_is | kit_is | kernel_rfl)
    (case zsup => k_is)
    (case htop => first | rfl | decide +kernel)
    (case opq => k_is)
    (case sp0 => k_is)
    (case tk0 => k_is)
    (case z0 => k_is)
    (case z1 => k_is)
    (case z2 => k_is)
    (case z3 => k_is)
    (case z4 => k_is)
    (case z5 => k_is)
    (case z6 => k_is)
    (case z7 => k_is)
    (case z8 => k_is)
    (case z9 => k_is)
    (case z10 => k_is)
    (case z11 => k_is)
    (case zg => k_is)
