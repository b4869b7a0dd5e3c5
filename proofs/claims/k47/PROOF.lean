import PyProof.Rows.All
import Wide.All
import OpenK.AllK
import Wide.FinOn
import PyProof.Rows.TmSorted
import PyProof.Rows.StrMeet
import HandS.Dict
import HandS.Conv
import HandS.Iter
import KE.KDictSum
import HandS.Comp
import HandS.DictComp
import HandS.ForMost
import HandS.StrMore
import HandS.IsInst
import HandS.Strs
import PySem.Challenge.RW_letterrules_k47_markings_joined
import HandS.Star
import PyProof.DictUpdate
import HandS.Defaults
import HandS.MakeKwOnly
import HandS.OwnEq
import KE.KCallOwn
import PyProof.InstEq
import HandS.OwnIter
import HandS.ExcValue
import HandS.Property
import HandS.WordsDict
import HandS.FStr
import HandS.ClsMeth
import HandS.Wide
import PyProof.EqAt
import KE.KOpsOwn
import HandS.ExcInit
import HandS.ExcIs
import KE.KExcMake
import HandS.ExcBuiltin
import HandS.TryMany
import HandS.ExcField
import HandS.ForExc
import HandS.Lambda
import HandS.Style
import HandS.TryOnly
import KE.GoesEnum
import HandS.SetBool
import HandS.SetFor
import HandS.TupAny
import HandS.EndTab
import KE.KNest
set_option Elab.async false
set_option linter.all false
set_option maxRecDepth 100000
set_option maxHeartbeats 4000000
/-! Markings as plain lists: the words by kinds, the kept ones. -/
namespace M46
open PySem PySem.Spec PyProof.Rows

abbrev S := PySem.Str
/-- the word of a kind -/
def gw (ws : List (S × S)) (r : S) (k : S) : S := (ws.lookup k).getD r
theorem gw_nil {r k : S} : gw [] r k = r := rfl
theorem gw_cons {a b r k : S} {ws : List (S × S)} : gw ((a, b) :: ws) r k = if k = a then b else gw ws r k := by
  unfold gw
  rw [List.lookup_cons]
  by_cases h : k = a
  · subst h
    rw [if_pos rfl, beq_self_eq_true]
    rfl
  · have : (k == a) = false := by simpa using h
    rw [if_neg h, this]
theorem gw_not {r k : S} : ∀ {ws : List (S × S)}, k ∉ ws.map (·.1) → gw ws r k = r
  | [], _ => rfl
  | (a, b) :: ws, h => by
    rw [List.map_cons, List.mem_cons, not_or] at h
    rw [gw_cons, if_neg h.1, gw_not h.2]
theorem gw_any {r r' k : S} : ∀ {ws : List (S × S)}, k ∈ ws.map (·.1) → gw ws r k = gw ws r' k
  | [], h => by cases h
  | (a, b) :: ws, h => by
    rw [gw_cons, gw_cons]
    by_cases e : k = a
    · rw [if_pos e, if_pos e]
    · rw [if_neg e, if_neg e]
      rw [List.map_cons, List.mem_cons] at h
      exact gw_any (h.resolve_left e)
theorem gw_mem {r k : S} : ∀ {ws : List (S × S)}, k ∈ ws.map (·.1) → gw ws r k ∈ ws.map (·.2)
  | [], h => by cases h
  | (a, b) :: ws, h => by
    rw [gw_cons]
    by_cases e : k = a
    · rw [if_pos e]; simp
    · rw [if_neg e, List.map_cons]
      rw [List.map_cons, List.mem_cons] at h
      exact List.mem_cons_of_mem _ (gw_mem (h.resolve_left e))
/-- the kept ones among the kinds ks: those whose word isn't r -/
def keep (ks : List S) (f : S → S) (r : S) : List S := ks.filter fun k => decide (f k ≠ r)
def kept (ks : List S) (f : S → S) (r : S) : List (S × S) := (keep ks f r).map fun k => (k, f k)
theorem kept_keys {ks : List S} {f : S → S} {r : S} : (kept ks f r).map (·.1) = keep ks f r := by
  unfold kept
  rw [List.map_map]
  show (keep ks f r).map id = _
  rw [List.map_id]
theorem gw_fun {f : S → S} {r k : S} : ∀ {ks : List S}, gw (ks.map fun k => (k, f k)) r k = if k ∈ ks then f k else r
  | [] => by simp [gw_nil]
  | a :: ks => by
    rw [List.map_cons, gw_cons, gw_fun (ks := ks)]
    by_cases e : k = a
    · subst e; simp
    · rw [if_neg e]
      simp [e]
theorem gw_kept {ks : List S} {f : S → S} {r k : S} (h : k ∉ ks → f k = r) : gw (kept ks f r) r k = f k := by
  unfold kept
  rw [gw_fun]
  unfold keep
  by_cases hk : k ∈ ks
  · by_cases e : f k = r
    · rw [if_neg (by simp [e]), e]
    · rw [if_pos (by simp [hk, e])]
  · rw [if_neg (by simp [hk]), h hk]
/-! ### the order of texts -/
theorem le_iff {a b : S} : ltCps b.cps.toList a.cps.toList = false ↔ a.cps.toList ≤ b.cps.toList := by
  rw [ltCps_eq, decide_eq_false_iff_not]
  exact Iff.rfl
theorem rising_le : ∀ {p : S} {l : List S}, risingS p l = true → (p :: l).Pairwise fun a b => a.cps.toList ≤ b.cps.toList
  | p, [], _ => by simp
  | p, x :: r, h => by
    unfold risingS at h
    rw [Bool.and_eq_true, Bool.not_eq_true'] at h
    have hp := le_iff.mp h.1
    have ih := rising_le h.2
    refine List.Pairwise.cons (fun b hb => ?_) ih
    rcases List.mem_cons.mp hb with e | hb
    · subst e; exact hp
    · exact List.le_trans hp (List.rel_of_pairwise_cons ih hb)
theorem sorted_le {l : List S} (h : sortedS l = true) : l.Pairwise fun a b => a.cps.toList ≤ b.cps.toList := by
  cases l with
  | nil => exact .nil
  | cons x r => exact rising_le h
theorem str_ext {a b : S} (h : a.cps.toList = b.cps.toList) : a = b := by
  obtain ⟨x⟩ := a
  obtain ⟨y⟩ := b
  exact congrArg _ (Array.toList_inj.mp h)
theorem sorted_eq {l m : List S} (hl : l.Pairwise fun a b => a.cps.toList ≤ b.cps.toList) (hm : m.Pairwise fun a b => a.cps.toList ≤ b.cps.toList) (hp : l.Perm m) : l = m :=
  List.Perm.eq_of_pairwise (le := fun a b => a.cps.toList ≤ b.cps.toList) (fun a b _ _ h1 h2 => str_ext (List.le_antisymm h1 h2)) hl hm hp
/-- the kept ones are told by the function -/
theorem kept_ext {ks ms : List S} {f g : S → S} {r : S} (hk : ks.Pairwise fun a b => a.cps.toList ≤ b.cps.toList) (hm : ms.Pairwise fun a b => a.cps.toList ≤ b.cps.toList) (nk : ks.Nodup) (nm : ms.Nodup) (fg : ∀ k, f k = g k) (h1 : ∀ k, k ∉ ks → f k = r) (h2 : ∀ k, k ∉ ms → g k = r) : kept ks f r = kept ms g r := by
  have e : f = g := funext fg
  subst e
  unfold kept
  congr 1
  unfold keep
  refine sorted_eq (hk.filter _) (hm.filter _) ?_
  rw [List.perm_ext_iff_of_nodup (nk.filter _) (nm.filter _)]
  intro a
  simp only [List.mem_filter, decide_eq_true_eq]
  constructor
  · rintro ⟨_, h⟩
    exact ⟨Classical.byContradiction fun z => h (h2 a z), h⟩
  · rintro ⟨_, h⟩
    exact ⟨Classical.byContradiction fun z => h (h1 a z), h⟩
end M46

/-! Words by kinds as the entries of a dict. -/
namespace M46
open PySem PySem.Spec PyProof.Rows L2

def wd (ws : List (S × S)) : List (Key × V) := ws.map fun x => ((Sum.inr x.1 : Key), V.str x.2)
def putS (ws : List (S × S)) (k v : S) : List (S × S) := if k ∈ ws.map (·.1) then ws.map (fun x => if x.1 = k then (x.1, v) else x) else ws ++ [(k, v)]
theorem wd_len {ws : List (S × S)} : (wd ws).length = ws.length := by unfold wd; rw [List.length_map]
theorem val_wd (k : S) : ∀ ws : List (S × S), valV (wd ws) (Sum.inr k : Key) = (ws.lookup k).map V.str
  | [] => rfl
  | (a, b) :: ws => by
    rw [List.lookup_cons]
    by_cases h : k = a
    · subst h
      rw [beq_self_eq_true]
      exact valV_pos rfl
    · have e : (k == a) = false := by simpa using h
      rw [e]
      have := val_wd k ws
      refine (valV_neg (fun z => ?_)).trans this
      injection z with z
      exact h z.symm
theorem val_gw {r k : S} {ws : List (S × S)} : (valV (wd ws) (Sum.inr k : Key)).getD (.str r) = .str (gw ws r k) := by
  rw [val_wd]
  unfold gw
  cases ws.lookup k <;> rfl
theorem look_mem {r k : S} : ∀ {ws : List (S × S)}, k ∈ ws.map (·.1) → ws.lookup k = some (gw ws r k)
  | [], h => by cases h
  | (a, b) :: ws, h => by
    rw [List.lookup_cons, gw_cons]
    by_cases e : k = a
    · subst e
      rw [beq_self_eq_true, if_pos rfl]
    · have e' : (k == a) = false := by simpa using e
      rw [e', if_neg e]
      rw [List.map_cons, List.mem_cons] at h
      exact look_mem (h.resolve_left e)
theorem val_mem {r k : S} {ws : List (S × S)} (h : k ∈ ws.map (·.1)) : valV (wd ws) (Sum.inr k : Key) = some (.str (gw ws r k)) := by
  rw [val_wd, look_mem (r := r) h]
  rfl
theorem look_not {k : S} : ∀ {ws : List (S × S)}, k ∉ ws.map (·.1) → ws.lookup k = none
  | [], _ => rfl
  | (a, b) :: ws, h => by
    rw [List.map_cons, List.mem_cons, not_or] at h
    have e' : (k == a) = false := by simpa using h.1
    rw [List.lookup_cons, e']
    exact look_not h.2
theorem val_some {k : S} {ws : List (S × S)} : (valV (wd ws) (Sum.inr k : Key)).isSome = decide (k ∈ ws.map (·.1)) := by
  by_cases h : k ∈ ws.map (·.1)
  · rw [val_mem (r := k) h, decide_eq_true h]
    rfl
  · rw [val_wd, look_not h, decide_eq_false h]
    rfl
theorem any_wd (k : S) : ∀ ws : List (S × S), ((wd ws).any fun kv => decide (kv.1 = (Sum.inr k : Key))) = decide (k ∈ ws.map (·.1)) := fun ws => by
  rw [valV_any, val_some]
theorem put_wd {ws : List (S × S)} {k v : S} : putK (wd ws) (Sum.inr k : Key) (.str v) = wd (putS ws k v) := by
  unfold putK putS
  rw [any_wd]
  by_cases h : k ∈ ws.map (·.1)
  · rw [decide_eq_true h, if_pos rfl, if_pos h]
    unfold wd
    rw [List.map_map, List.map_map]
    refine List.map_congr_left fun x _ => ?_
    show (if (Sum.inr x.1 : Key) = Sum.inr k then ((Sum.inr x.1 : Key), V.str v) else _) = _
    by_cases e : x.1 = k
    · rw [if_pos (by rw [e])]
      show _ = ((Sum.inr (if x.1 = k then (x.1, v) else x).1 : Key), V.str (if x.1 = k then (x.1, v) else x).2)
      rw [if_pos e]
    · rw [if_neg (fun z => e (Sum.inr.inj z))]
      show _ = ((Sum.inr (if x.1 = k then (x.1, v) else x).1 : Key), V.str (if x.1 = k then (x.1, v) else x).2)
      rw [if_neg e]
  · rw [decide_eq_false h, if_neg Bool.false_ne_true, if_neg h]
    unfold wd
    rw [List.map_append]
    rfl
theorem put_new {ws : List (S × S)} {k v : S} (h : k ∉ ws.map (·.1)) : putS ws k v = ws ++ [(k, v)] := by
  unfold putS
  rw [if_neg h]
theorem gw_app {r k : S} {b : List (S × S)} : ∀ {a : List (S × S)}, gw (a ++ b) r k = if k ∈ a.map (·.1) then gw a r k else gw b r k
  | [] => by simp
  | (x, y) :: a => by
    rw [List.cons_append, gw_cons, gw_cons, gw_app (a := a), List.map_cons]
    by_cases e : k = x
    · simp [e]
    · simp only [List.mem_cons, e, if_false, false_or]
theorem gw_repl {r k j v : S} : ∀ {ws : List (S × S)}, gw (ws.map fun x => if x.1 = k then (x.1, v) else x) r j = if j = k ∧ k ∈ ws.map (·.1) then v else gw ws r j
  | [] => by simp
  | (a, b) :: ws => by
    rw [List.map_cons]
    have ih := gw_repl (r := r) (k := k) (j := j) (v := v) (ws := ws)
    by_cases e : a = k
    · subst e
      rw [if_pos rfl, gw_cons, gw_cons, ih]
      by_cases f : j = a
      · subst f; simp
      · rw [if_neg f, if_neg f, if_neg (fun z => f z.1), if_neg (fun z => f z.1)]
    · rw [if_neg e, gw_cons, gw_cons, ih]
      by_cases f : j = a
      · rw [if_pos f, if_pos f, if_neg (fun z => e (f.symm.trans z.1))]
      · rw [if_neg f, if_neg f]
        by_cases g : j = k
        · by_cases m : k ∈ ws.map (·.1)
          · rw [if_pos ⟨g, m⟩, if_pos ⟨g, by rw [List.map_cons]; exact List.mem_cons_of_mem _ m⟩]
          · rw [if_neg (fun z => m z.2), if_neg (fun z => m ?_)]
            have z2 := z.2
            rw [List.map_cons, List.mem_cons] at z2
            exact z2.resolve_left fun q => e q.symm
        · rw [if_neg (fun z => g z.1), if_neg (fun z => g z.1)]
theorem gw_put {r k j v : S} {ws : List (S × S)} : gw (putS ws k v) r j = if j = k then v else gw ws r j := by
  unfold putS
  by_cases h : k ∈ ws.map (·.1)
  · rw [if_pos h, gw_repl]
    by_cases e : j = k
    · rw [if_pos ⟨e, h⟩, if_pos e]
    · rw [if_neg (fun z => e z.1), if_neg e]
  · rw [if_neg h, gw_app, gw_cons, gw_nil]
    by_cases e : j = k
    · subst e
      rw [if_neg h, if_pos rfl, if_pos rfl]
    · rw [if_neg e, if_neg e]
      by_cases m : j ∈ ws.map (·.1)
      · rw [if_pos m]
      · rw [if_neg m, gw_not m]
theorem keys_put {k v : S} {ws : List (S × S)} : (putS ws k v).map (·.1) = if k ∈ ws.map (·.1) then ws.map (·.1) else ws.map (·.1) ++ [k] := by
  unfold putS
  by_cases h : k ∈ ws.map (·.1)
  · rw [if_pos h, if_pos h, List.map_map]
    refine List.map_congr_left fun x _ => ?_
    show (if x.1 = k then (x.1, v) else x).1 = x.1
    by_cases e : x.1 = k
    · rw [if_pos e]
    · rw [if_neg e]
  · rw [if_neg h, if_neg h, List.map_append]
    rfl
theorem mem_put {k v j : S} {ws : List (S × S)} : j ∈ (putS ws k v).map (·.1) ↔ j ∈ ws.map (·.1) ∨ j = k := by
  rw [keys_put]
  by_cases h : k ∈ ws.map (·.1)
  · rw [if_pos h]
    exact ⟨.inl, fun z => z.elim id fun e => by rw [e]; exact h⟩
  · rw [if_neg h, List.mem_append, List.mem_singleton]
theorem nodup_put {k v : S} {ws : List (S × S)} (h : (ws.map (·.1)).Nodup) : ((putS ws k v).map (·.1)).Nodup := by
  rw [keys_put]
  by_cases m : k ∈ ws.map (·.1)
  · rw [if_pos m]; exact h
  · rw [if_neg m, List.nodup_append]
    refine ⟨h, by simp, fun a ha b hb => ?_⟩
    rw [List.mem_singleton.mp hb]
    intro e
    exact m (by rw [← e]; exact ha)
theorem len_put {k v : S} {ws : List (S × S)} : (putS ws k v).length ≤ ws.length + 1 := by
  unfold putS
  split
  · rw [List.length_map]; omega
  · rw [List.length_append]; simp
theorem vals_put {k v : S} {ws : List (S × S)} {p : S → Prop} (h : ∀ x ∈ ws.map (·.2), p x) (hv : p v) : ∀ x ∈ (putS ws k v).map (·.2), p x := by
  unfold putS
  intro x hx
  split at hx
  · rw [List.map_map] at hx
    obtain ⟨y, hy, e⟩ := List.mem_map.mp hx
    have e' : (if y.1 = k then (y.1, v) else y).2 = x := e
    split at e'
    · rw [← e']; exact hv
    · rw [← e']; exact h _ (List.mem_map.mpr ⟨y, hy, rfl⟩)
  · rw [List.map_append, List.mem_append] at hx
    rcases hx with hx | hx
    · exact h x hx
    · have : x = v := by simpa using hx
      rw [this]; exact hv
/-- the entries put one by one into nothing -/
theorem merge_nodup : ∀ {ws pre : List (S × S)}, ((pre ++ ws).map (·.1)).Nodup → mergeK (wd pre) (wd ws) = wd (pre ++ ws)
  | [], pre, _ => by rw [List.append_nil]; rfl
  | (a, b) :: ws, pre, h => by
    have hn : a ∉ pre.map (·.1) := by
      rw [List.map_append, List.nodup_append] at h
      intro m
      exact h.2.2 a m a (by simp) rfl
    show mergeK (putK (wd pre) (Sum.inr a : Key) (.str b)) (wd ws) = _
    rw [put_wd, put_new hn, merge_nodup (by rw [List.append_assoc]; exact h), List.append_assoc]
    rfl
theorem merge_nil {ws : List (S × S)} (h : (ws.map (·.1)).Nodup) : mergeK [] (wd ws) = wd ws := merge_nodup (pre := []) h
theorem gw_of_mem {r k v : S} : ∀ {ws : List (S × S)}, (ws.map (·.1)).Nodup → (k, v) ∈ ws → gw ws r k = v
  | [], _, h => by cases h
  | (a, b) :: ws, n, h => by
    rw [gw_cons]
    rw [List.map_cons, List.nodup_cons] at n
    rcases List.mem_cons.mp h with e | h
    · injection e with e1 e2
      rw [if_pos e1, e2]
    · have hk : k ∈ ws.map (·.1) := List.mem_map.mpr ⟨(k, v), h, rfl⟩
      rw [if_neg (fun e => n.1 (by rw [← e]; exact hk))]
      exact gw_of_mem n.2 h
theorem mem_of_gw {r k : S} : ∀ {ws : List (S × S)}, k ∈ ws.map (·.1) → (k, gw ws r k) ∈ ws
  | [], h => by cases h
  | (a, b) :: ws, h => by
    rw [gw_cons]
    by_cases e : k = a
    · subst e
      rw [if_pos rfl]
      exact List.mem_cons_self
    · rw [if_neg e]
      rw [List.map_cons, List.mem_cons] at h
      exact List.mem_cons_of_mem _ (mem_of_gw (h.resolve_left e))
theorem gw_perm {r k : S} {ws vs : List (S × S)} (n : (ws.map (·.1)).Nodup) (p : vs.Perm ws) : gw vs r k = gw ws r k := by
  have n2 : (vs.map (·.1)).Nodup := (p.map (·.1)).nodup_iff.mpr n
  by_cases h : k ∈ ws.map (·.1)
  · have := mem_of_gw (r := r) h
    exact gw_of_mem n2 (p.mem_iff.mpr this)
  · have h2 : k ∉ vs.map (·.1) := fun z => h ((p.map (·.1)).mem_iff.mp z)
    rw [gw_not h, gw_not h2]
end M46

/-! sorted(d), d a dict whose keys are texts. -/
namespace R0
open PySem PySem.Spec PyProof.Rows L2 M46

theorem strs_of_keys {P : Program} {w : World} {ws : List (S × S)} {vs : List (Key × Value)} {acc : Array Value} (rk : KV (wd ws) vs) (hacc : ItemsOf (fun i v => ∃ k x, vs[i]? = some (k, x) ∧ (mixKind P w).is k v = true) acc vs.length) : StrsAre acc.toList (ws.map (·.1)) := by
  have hl : ws.length = vs.length := by rw [← wd_len]; exact Paired.length rk
  have el : acc.toList.length = ws.length := by rw [Array.length_toList, hacc.1, hl]
  have at_ : ∀ j (h : j < ws.length), ∃ t, acc.toList[j]? = some (.str (ws[j]).1 t) := fun j h => by
    have h2 : j < acc.toList.length := by omega
    obtain ⟨k, y, hky, hi⟩ := hacc.2 j acc.toList[j] (by rw [← Array.getElem?_toList]; exact List.getElem?_eq_getElem h2)
    have e1 : (wd ws).map (·.1) = vs.map (·.1) := KV.keys rk
    have e2 : ((wd ws).map (·.1))[j]? = some k := by rw [e1, List.getElem?_map, hky]; rfl
    unfold wd at e2
    rw [List.map_map, List.getElem?_map, List.getElem?_eq_getElem h] at e2
    obtain rfl : (Sum.inr (ws[j]).1 : Key) = k := Option.some.inj e2
    obtain ⟨t, e3⟩ := keyIs_rel (k := Sum.inr (ws[j]).1) hi
    refine ⟨t, ?_⟩
    rw [List.getElem?_eq_getElem h2, e3]
  revert at_ el
  generalize acc.toList = l
  clear hacc rk hl
  induction ws generalizing l with
  | nil =>
    intro el _
    have : l = [] := List.eq_nil_of_length_eq_zero el
    rw [this]
    exact .nil
  | cons x ws ih =>
    intro el at_
    cases l with
    | nil => simp at el
    | cons v l =>
      obtain ⟨t, e⟩ := at_ 0 (by simp)
      obtain rfl : v = .str x.1 t := by simpa using e
      exact .cons _ _ (ih l (by simpa using el) fun j h => by
        obtain ⟨u, q⟩ := at_ (j + 1) (by simpa using h)
        exact ⟨u, by simpa using q⟩)
/-- sorted(d) -/
def rSortedD : List V → Hp → VK → Prop := fun xs H Q => ∃ (d : Addr) (ws : List (S × S)), xs = [V.ref d] ∧ Rd H d (.dK (wd ws)) ∧ ws.length < 64 ∧
  ∀ (ys : List S) (p : Addr), ys.Perm (ws.map (·.1)) → sortedS ys = true → H p = none → Q (.ref p) (upd H p (.lst (ys.map V.str)))
theorem call_sortedD {X : Cx} (hc : X.calm = true) : CallR X (.builtin "sorted") rSortedD := by
  intro pins s σ H xs us Q I r h
  obtain ⟨d, ws, rfl, hd, h64, q⟩ := h
  obtain ⟨u, rfl, ru⟩ := r.one
  cases ru
  obtain ⟨z, lo, vs, rk, hm⟩ := (show ObjOk X.prog X.w H s.heap d (.dK (wd ws)) from hd.ok I.hok)
  obtain ⟨ep, hat⟩ := hm.dictAt
  have hl : ws.length = vs.length := by rw [← wd_len]; exact Paired.length rk
  have hh : X.A.in1.handled = none := I.ok.hd hc
  refine Calls.call_function_entry kind_sorted plain_sorted entry_sorted (args_sorted1 _) ?_
  unfold Builtin.«sorted»
  refine wpAny_bind (m := checkCount "sorted" 1 1 _) (wpAny_pure ?_)
  refine wpAny_bind (PySem.W.kdu_collect (A := X.A.in1) (PySem.W.kdl_dict (knd := mixKind X.prog X.w) (kvs := vs) (ep := ep) lo) hh hat (by rw [sizeLine_eq]; omega) fun h' tk acc hk hacc => ?_)
  have hS := strs_of_keys rk hacc
  have hL : acc.toList.length = ws.length := by rw [Array.length_toList, hacc.1, hl]
  refine wpAny_bind (wpAny_newList ?_ (by rw [hL, sizeLine_eq]; omega))
  have hoL : (h'.push (seqObj "list" acc.toList.toArray 0)).get? h'.objs.size = some (seqObj "list" acc.toList.toArray 0) := Heap.get?_push_size _ rfl
  refine wpAny_bind (wpAny_holding (wpAny_call_entry slot_list_sort ⟨_, hoL, rfl⟩ entry_list_sort (list_sort_treeK strKind_oneLt hoL hS.keysOf (fun v₁ v₂ rest e => keyKind_strs (by rw [← e]; exact hS)) (by omega) fun st' a1 a2 => ⟨_, rfl, ?_⟩) (args_list_sort _)))
  obtain ⟨ys, h1, h2, h3⟩ := sorted_out_str hS a1 a2
  refine wpAny_pure ⟨_, rfl, ?_⟩
  obtain ⟨ep', he'⟩ := sortedHeap_at (vs := acc.toList) (out := (arrOf st').map (·.2)) hoL
  have hlen : (ys.map V.str).length ≤ sizeLine := by rw [List.length_map, h2.length_eq, List.length_map, sizeLine_eq]; omega
  have I1 : Inv X pins σ H { s with heap := h', toks := tk } := I.kept hk
  exact ⟨.ref h'.objs.size, upd H h'.objs.size (.lst (ys.map V.str)), I1.laid (t' := tk) (fun b o e => by
    have e1 : h'.get? b = some o := e
    rw [sortedHeap_old (Nat.ne_of_lt (Heap.lt_size e1)) (by rw [size_push']; exact Nat.lt_succ_of_lt (Heap.lt_size e1)), Heap.get?_push_ne _ _ _ (Nat.ne_of_lt (Heap.lt_size e1))]
    exact e1) (Nat.le_refl _) ⟨hlen, _, ep', vals_of_strs h1, by rw [Array.toArray_toList]; exact he'⟩, rfl, q ys _ h2 h3 (I1.hok.fresh (Nat.le_refl _))⟩
end R0

/-! Comprehensions whose heaps are known exactly; comprehensions that lay new things. -/
namespace R0
open PySem PySem.Spec PyProof.Rows L2 M46

/-- a walk over the things xs that changes nothing, from heaps of the kind Ok -/
structure Wk (J : It) (xs : List V) (Ok : Hp → Prop) : Prop where
  go : ∀ i H, Ok H → i < xs.length → J.go i H
  stop : ∀ H, Ok H → J.stop xs.length H
  yld : ∀ i H x H', Ok H → J.yld i H x H' → H' = H ∧ xs[i]? = some x
theorem wk_list {K : PySem.W.Frag} {a : Addr} {xs : List V} : Wk (Itl K a) xs (fun H => SqL K H a xs) :=
  ⟨fun i H h hi => ⟨xs, xs[i], h, List.getElem?_eq_getElem hi⟩, fun H h => ⟨xs, h, Nat.le_refl _⟩, fun i H x H' h y => ⟨y.1, y.2 xs h⟩⟩
theorem wk_tup {K : PySem.W.Frag} {a : Addr} {xs : List V} : Wk (Itt K a) xs (fun H => SqT K H a xs) :=
  ⟨fun i H h hi => ⟨xs, xs[i], h, List.getElem?_eq_getElem hi⟩, fun H h => ⟨xs, h, Nat.le_refl _⟩, fun i H x H' h y => ⟨y.1, y.2 xs h⟩⟩
theorem wk_keys {d : Addr} {o : Obj} {kvs : List (Key × V)} : Wk (Itk d o kvs) (kvs.map fun kv => kV kv.1) (fun H => H d = some (.frz o (.dK kvs))) :=
  ⟨fun i H h hi => ⟨h, by simpa using hi⟩, fun H h => ⟨h, by simp⟩, fun i H x H' h y => by
    obtain ⟨e, k, v, hk, rfl⟩ := y
    exact ⟨e, by rw [List.getElem?_map, hk]; rfl⟩⟩
theorem wk_vals {d : Addr} {o : Obj} {kvs : List (Key × V)} : Wk (Itd d o kvs) (kvs.map (·.2)) (fun H => H d = some (.frz o (.dK kvs))) :=
  ⟨fun i H h hi => ⟨h, by simpa using hi⟩, fun H h => ⟨h, by simp⟩, fun i H x H' h y => by
    obtain ⟨e, k, hk⟩ := y
    exact ⟨e, by rw [List.getElem?_map, hk]; rfl⟩⟩
theorem take_fm {α β : Type} {F : α → Option β} {xs : List α} {i : Nat} {x : α} (h : xs[i]? = some x) : (xs.take (i + 1)).filterMap F = (xs.take i).filterMap F ++ (F x).toList := by
  rw [List.take_add_one, h, List.filterMap_append]
  cases e : F x <;> simp [e]
theorem fm_le {α β : Type} {F : α → Option β} {xs : List α} : (xs.filterMap F).length ≤ xs.length := List.length_filterMap_le _ _
theorem lc_ex {J : It} {xs : List V} {Ok : Hp → Prop} (w : Wk J xs Ok) (F : V → Option V) {g : TG} {tt : TT} {te : TE} {vs : List Nat} {σ : L2.St} {H1 : Hp} {D : Addr} {Qd : Hp → Prop}
    (hok : ∀ ys, Ok (upd H1 D (.lst ys))) (hz : xs.length ≤ 1000)
    (hs : ∀ (i : Nat) (x : V) (ys : List V) (R : V → Hp → Prop) (N : Hp → Prop), xs[i]? = some x → (∀ y, F x = some y → R y (upd H1 D (.lst ys))) → (F x = none → N (upd H1 D (.lst ys))) →
      g x (wipe σ vs) (upd H1 D (.lst ys)) fun σ2 H2 => wipe σ2 vs = wipe σ vs ∧ tt σ2 H2 fun b H3 => if b = true then te σ2 H3 R else N H3)
    (hd : Qd (upd H1 D (.lst (xs.filterMap F)))) :
    ∃ W : Nat → Nat → Hp → Prop, (∃ m, W 0 m (upd H1 D (.lst []))) ∧ ∀ i m H, W i m H →
      (J.stop i H ∧ Qd H) ∨ (J.go i H ∧ ∃ Nx : Hp → Prop, (∀ H', Nx H' → ∃ m', m' < m ∧ W (i + 1) m' H') ∧ ∀ x H', J.yld i H x H' → g x (wipe σ vs) H' fun σ2 H2 => wipe σ2 vs = wipe σ vs ∧ tt σ2 H2 fun b H3 =>
        if b = true then te σ2 H3 fun y H4 => ∃ acc, H4 D = some (.lst acc) ∧ acc.length < sizeLine ∧ Nx (upd H4 D (.lst (acc ++ [y]))) else Nx H3) := by
  refine ⟨fun i m H => m = xs.length - i ∧ i ≤ xs.length ∧ H = upd H1 D (.lst ((xs.take i).filterMap F)), ⟨xs.length, by simp, Nat.zero_le _, rfl⟩, ?_⟩
  rintro i m H ⟨rfl, hi, rfl⟩
  by_cases hlt : i < xs.length
  · refine .inr ⟨w.go i _ (hok _) hlt, fun H => H = upd H1 D (.lst ((xs.take (i + 1)).filterMap F)), fun H' e => ⟨xs.length - (i + 1), by omega, rfl, hlt, e⟩, fun x H' y => ?_⟩
    obtain ⟨e, hx⟩ := w.yld i _ x H' (hok _) y
    subst e
    refine hs i x _ _ _ hx (fun y ey => ⟨_, upd_same, ?_, ?_⟩) fun en => ?_
    · have := fm_le (F := F) (xs := xs.take i)
      rw [List.length_take] at this
      rw [sizeLine_eq]
      omega
    · rw [upd_upd, take_fm hx, ey]
      rfl
    · rw [take_fm hx, en]
      show _ = upd H1 D (.lst (_ ++ []))
      rw [List.append_nil]
  · obtain rfl : i = xs.length := by omega
    refine .inl ⟨w.stop _ (hok _), ?_⟩
    rw [List.take_length]
    exact hd
/-- a dict comprehension with new keys each time, all texts -/
theorem dc_ex {J : It} {xs : List V} {Ok : Hp → Prop} (w : Wk J xs Ok) (F : V → Option (S × S)) {g : TG} {tt : TT} {tk tv : TE} {vs : List Nat} {σ : L2.St} {H1 : Hp} {D : Addr} {Qd : Hp → Prop}
    (hok : ∀ ws, Ok (upd H1 D (.dK (wd ws)))) (hz : xs.length ≤ 1000) (hn : ((xs.filterMap F).map (·.1)).Nodup)
    (hs : ∀ (i : Nat) (x : V) (ws : List (S × S)) (R : V → V → Hp → Prop) (N : Hp → Prop), xs[i]? = some x → (∀ p : S × S, F x = some p → R (.str p.1) (.str p.2) (upd H1 D (.dK (wd ws)))) → (F x = none → N (upd H1 D (.dK (wd ws)))) →
      g x (wipe σ vs) (upd H1 D (.dK (wd ws))) fun σ2 H2 => wipe σ2 vs = wipe σ vs ∧ tt σ2 H2 fun b H3 => if b = true then tk σ2 H3 fun y H4 => tv σ2 H4 fun z H5 => R y z H5 else N H3)
    (hd : Qd (upd H1 D (.dK (wd (xs.filterMap F))))) :
    ∃ W : Nat → Nat → Hp → Prop, (∃ m, W 0 m (upd H1 D (.dK []))) ∧ ∀ i m H, W i m H →
      (J.stop i H ∧ Qd H) ∨ (J.go i H ∧ ∃ Nx : Hp → Prop, (∀ H', Nx H' → ∃ m', m' < m ∧ W (i + 1) m' H') ∧ ∀ x H', J.yld i H x H' → g x (wipe σ vs) H' fun σ2 H2 => wipe σ2 vs = wipe σ vs ∧ tt σ2 H2 fun b H3 =>
        if b = true then tk σ2 H3 fun y H4 => tv σ2 H4 fun z H5 => ∃ kvs k, y = kV k ∧ H5 D = some (.dK kvs) ∧ kvs.length < sizeLine ∧ Nx (upd H5 D (.dK (putK kvs k z))) else Nx H3) := by
  refine ⟨fun i m H => m = xs.length - i ∧ i ≤ xs.length ∧ H = upd H1 D (.dK (wd ((xs.take i).filterMap F))), ⟨xs.length, by simp, Nat.zero_le _, rfl⟩, ?_⟩
  rintro i m H ⟨rfl, hi, rfl⟩
  by_cases hlt : i < xs.length
  · refine .inr ⟨w.go i _ (hok _) hlt, fun H => H = upd H1 D (.dK (wd ((xs.take (i + 1)).filterMap F))), fun H' e => ⟨xs.length - (i + 1), by omega, rfl, hlt, e⟩, fun x H' y => ?_⟩
    obtain ⟨e, hx⟩ := w.yld i _ x H' (hok _) y
    subst e
    have hsub : List.Sublist (((xs.take (i + 1)).filterMap F).map (·.1)) ((xs.filterMap F).map (·.1)) := ((List.take_sublist _ _).filterMap F).map _
    have hnd := hsub.nodup hn
    rw [take_fm hx] at hnd
    refine hs i x _ (fun y z H5 => ∃ kvs k, y = kV k ∧ H5 D = some (.dK kvs) ∧ kvs.length < sizeLine ∧ _) _ hx (fun p ep => ⟨_, Sum.inr p.1, rfl, upd_same, ?_, ?_⟩) fun en => ?_
    · have := fm_le (F := F) (xs := xs.take i)
      rw [List.length_take] at this
      rw [wd_len, sizeLine_eq]
      omega
    · rw [ep, List.map_append, List.nodup_append] at hnd
      rw [upd_upd, put_wd, put_new (fun m => hnd.2.2 _ m p.1 (by simp) rfl), take_fm hx, ep]
      rfl
    · rw [take_fm hx, en]
      show _ = upd H1 D (.dK (wd (_ ++ [])))
      rw [List.append_nil]
  · obtain rfl : i = xs.length := by omega
    refine .inl ⟨w.stop _ (hok _), ?_⟩
    rw [List.take_length]
    exact hd
/-- a comprehension whose turns may lay new things -/
theorem lc_gr {J : It} {n : Nat} (P : Nat → List V → Hp → Prop) {g : TG} {tt : TT} {te : TE} {vs : List Nat} {σ : L2.St} {H1 : Hp} {D : Addr} {Qd : Hp → Prop} (hz : n ≤ 1000)
    (hgo : ∀ i ys H, P i ys H → i < n → J.go i H) (hstop : ∀ ys H, P n ys H → J.stop n H) (h0 : P 0 [] (upd H1 D (.lst [])))
    (hs : ∀ (i : Nat) (x : V) (ys : List V) (H H' : Hp) (R : V → Hp → Prop) (N : Hp → Prop), i < n → H D = some (.lst ys) → P i ys H → J.yld i H x H' → (∀ y H4, H4 D = some (.lst ys) → P (i + 1) (ys ++ [y]) (upd H4 D (.lst (ys ++ [y]))) → R y H4) → (∀ H4, H4 D = some (.lst ys) → P (i + 1) ys H4 → N H4) →
      g x (wipe σ vs) H' fun σ2 H2 => wipe σ2 vs = wipe σ vs ∧ tt σ2 H2 fun b H3 => if b = true then te σ2 H3 R else N H3)
    (hd : ∀ ys H, H D = some (.lst ys) → P n ys H → Qd H) :
    ∃ W : Nat → Nat → Hp → Prop, (∃ m, W 0 m (upd H1 D (.lst []))) ∧ ∀ i m H, W i m H →
      (J.stop i H ∧ Qd H) ∨ (J.go i H ∧ ∃ Nx : Hp → Prop, (∀ H', Nx H' → ∃ m', m' < m ∧ W (i + 1) m' H') ∧ ∀ x H', J.yld i H x H' → g x (wipe σ vs) H' fun σ2 H2 => wipe σ2 vs = wipe σ vs ∧ tt σ2 H2 fun b H3 =>
        if b = true then te σ2 H3 fun y H4 => ∃ acc, H4 D = some (.lst acc) ∧ acc.length < sizeLine ∧ Nx (upd H4 D (.lst (acc ++ [y]))) else Nx H3) := by
  refine ⟨fun i m H => m = n - i ∧ i ≤ n ∧ ∃ ys, H D = some (.lst ys) ∧ ys.length ≤ i ∧ P i ys H, ⟨n, by simp, Nat.zero_le _, [], upd_same, Nat.le_refl _, h0⟩, ?_⟩
  rintro i m H ⟨rfl, hi, ys, hD, hl, hP⟩
  by_cases hlt : i < n
  · refine .inr ⟨hgo i ys _ hP hlt, fun H => ∃ zs, H D = some (.lst zs) ∧ zs.length ≤ i + 1 ∧ P (i + 1) zs H, fun H' e => ⟨n - (i + 1), by omega, rfl, hlt, e⟩, fun x H' y => ?_⟩
    refine hs i x ys H H' _ _ hlt hD hP y (fun y H4 h4 hp => ⟨ys, h4, by rw [sizeLine_eq]; omega, ys ++ [y], upd_same, by rw [List.length_append, List.length_singleton]; omega, hp⟩) fun H4 h4 hp => ⟨ys, h4, by omega, hp⟩
  · obtain rfl : i = n := by omega
    exact .inl ⟨hstop ys _ hP, hd ys _ hD hP⟩
end R0

/-! The names in their order: of one letter, of two. -/
namespace K1
open PySem PySem.Spec PyProof.Rows L2

/-- the letters of the name whose number is left - 1, ahead of acc -/
def go : Nat → Nat → List Nat → List Nat
  | 0, _, acc => acc
  | _ + 1, 0, acc => acc
  | f + 1, left + 1, acc => go f (left / 26) ((97 + left % 26) :: acc)
theorem go_fuel : ∀ (f g left : Nat) (acc : List Nat), left ≤ f → left ≤ g → go f left acc = go g left acc
  | 0, 0, _, _, _, _ => rfl
  | 0, g + 1, left, acc, h, _ => by
    obtain rfl : left = 0 := by omega
    rfl
  | f + 1, 0, left, acc, _, h => by
    obtain rfl : left = 0 := by omega
    rfl
  | f + 1, g + 1, 0, acc, _, _ => rfl
  | f + 1, g + 1, left + 1, acc, h1, h2 => by
    show go f (left / 26) _ = go g (left / 26) _
    exact go_fuel f g _ _ (by omega) (by omega)
def nmL (n : Nat) : List Nat := go (n + 1) (n + 1) []
def nmS (n : Nat) : PySem.Str := ⟨(nmL n).toArray⟩
def alpha : PySem.Str := "abcdefghijklmnopqrstuvwxyz"
/-- the number of a name of one or two letters -/
def dec : List Nat → Nat
  | [a] => a - 97
  | [a, b] => 26 * (a - 96) + (b - 97)
  | _ => 0
theorem dec_nm {k : Nat} (h : k < 702) : dec (nmS k).cps.toList = k := by
  have z : ((List.range 702).all fun k => dec (nmL k) == k) = true := by decide +kernel
  have := List.all_eq_true.mp z k (List.mem_range.mpr h)
  show dec (nmL k).toArray.toList = k
  simpa using this
theorem nm_inj {j k : Nat} (hj : j < 702) (hk : k < 702) (h : nmS j = nmS k) : j = k := by
  rw [← dec_nm hj, ← dec_nm hk, h]
def first (bar : List PySem.Str) (k : Nat) : List PySem.Str := ((List.range k).map nmS).filter fun x => decide (x ∉ bar)
theorem first_zero (bar : List PySem.Str) : first bar 0 = [] := rfl
theorem first_succ (bar : List PySem.Str) (k : Nat) : first bar (k + 1) = first bar k ++ if nmS k ∈ bar then [] else [nmS k] := by
  unfold first
  rw [List.range_succ, List.map_append, List.filter_append]
  congr 1
  by_cases h : nmS k ∈ bar
  · rw [if_pos h]; simp [h]
  · rw [if_neg h]; simp [h]
theorem first_add (bar : List PySem.Str) (k j : Nat) : ∃ r, first bar (k + j) = first bar k ++ r := by
  induction j with
  | zero => exact ⟨[], by simp⟩
  | succ j ih =>
    obtain ⟨r, e⟩ := ih
    exact ⟨_, by rw [← Nat.add_assoc, first_succ, e, List.append_assoc]⟩
/-- a list without equal things all of which are in another is no longer than that -/
theorem nodup_sub {α : Type} [DecidableEq α] : ∀ {l m : List α}, l.Nodup → (∀ x ∈ l, x ∈ m) → l.length ≤ m.length
  | [], _, _, _ => Nat.zero_le _
  | a :: l, m, hn, hs => by
    have ha : a ∈ m := hs a (by simp)
    have hn' := List.nodup_cons.mp hn
    have := nodup_sub (l := l) (m := m.erase a) hn'.2 fun x hx => (List.mem_erase_of_ne (fun e : x = a => hn'.1 (by rw [← e] <;> exact hx))).mpr (hs x (by simp [hx]))
    rw [List.length_erase_of_mem ha] at this
    have hp : 0 < m.length := List.length_pos_of_mem ha
    simp only [List.length_cons]; omega
theorem filter_not_len {α : Type} (p : α → Bool) : ∀ l : List α, (l.filter p).length + (l.filter fun x => !p x).length = l.length
  | [] => rfl
  | a :: l => by
    have := filter_not_len p l
    cases h : p a <;> simp [h] <;> omega
theorem nms_nodup : ((List.range 702).map nmS).Nodup := by
  show List.Pairwise (· ≠ ·) _
  rw [List.pairwise_map]
  have h : (List.range 702).Pairwise (· ≠ ·) := List.nodup_range
  refine List.Pairwise.imp_of_mem (fun {a b} ha hb hne e => hne (nm_inj (List.mem_range.mp ha) (List.mem_range.mp hb) e)) h
theorem first_long (bar : List PySem.Str) : 702 ≤ (first bar 702).length + bar.length := by
  have e := filter_not_len (fun x => decide (x ∉ bar)) ((List.range 702).map nmS)
  have hb : ((((List.range 702).map nmS).filter fun x => !decide (x ∉ bar))).length ≤ bar.length := by
    refine nodup_sub (nms_nodup.sublist List.filter_sublist) fun x hx => ?_
    have := (List.mem_filter.mp hx).2
    simpa using this
  have hl : ((List.range 702).map nmS).length = 702 := by simp
  rw [hl] at e
  unfold first
  omega
theorem first_mono (bar : List PySem.Str) {k j : Nat} (h : k ≤ j) : (first bar k).length ≤ (first bar j).length := by
  obtain ⟨r, e⟩ := first_add bar k (j - k)
  rw [show k + (j - k) = j by omega] at e
  rw [e, List.length_append]; omega
/-- the first so many -/
def due (bar : List PySem.Str) (m : Nat) : List PySem.Str := (first bar 702).take m
theorem due_of {bar : List PySem.Str} {m k : Nat} (hk : k ≤ 702) (h : (first bar k).length = m) : first bar k = due bar m := by
  obtain ⟨r, e⟩ := first_add bar k (702 - k)
  rw [show k + (702 - k) = 702 by omega] at e
  unfold due
  rw [e, ← h, List.take_left]
theorem due_from {bar : List PySem.Str} {m k : Nat} (hk : k ≤ 702) (h : m ≤ (first bar k).length) : (first bar k).take m = due bar m := by
  obtain ⟨r, e⟩ := first_add bar k (702 - k)
  rw [show k + (702 - k) = 702 by omega] at e
  unfold due
  rw [e, List.take_append_of_le_length h]
/-- one sign -/
def sg (c : Nat) : PySem.Str := ⟨#[c]⟩
def longer (ls : List PySem.Str) : List PySem.Str := ls.flatMap fun l => (List.range 26).map fun i => (⟨l.cps ++ #[97 + i]⟩ : PySem.Str)
theorem longer_one : longer [⟨#[]⟩] = (List.range 26).map nmS := by decide +kernel
theorem longer_two : longer ((List.range 26).map nmS) = ((List.range 676).map fun i => nmS (26 + i)) := by decide +kernel
theorem first_26 (bar : List PySem.Str) : first bar 26 = ((List.range 26).map nmS).filter fun x => decide (x ∉ bar) := rfl
theorem first_702 (bar : List PySem.Str) : first bar 702 = first bar 26 ++ ((List.range 676).map fun i => nmS (26 + i)).filter fun x => decide (x ∉ bar) := by
  unfold first
  rw [← List.filter_append, show (702 : Nat) = 26 + 676 from rfl, List.range_add, List.map_append, List.map_map] <;> rfl
end K1

/-! What a name is: by the program's way and by another. -/
namespace K1
open PySem PySem.Spec PyProof.Rows L2

def low (c : Nat) : Bool := decide (97 ≤ c) && decide (c ≤ 122)
def nm (x : PySem.Str) : Bool := decide (1 ≤ x.length) && (decide (x.length ≤ 8) && x.cps.toList.all low)
theorem uni : ((List.range 128).all fun c => (Unicode.isAlpha c == ((decide (65 ≤ c) && decide (c ≤ 90)) || low c)) && ((Unicode.isLower c == low c) && ((Unicode.isUpper c || Unicode.isTitle c) == (decide (65 ≤ c) && decide (c ≤ 90))))) = true := by decide +kernel
theorem uni_at {c : Nat} (h : c < 128) : Unicode.isAlpha c = ((decide (65 ≤ c) && decide (c ≤ 90)) || low c) ∧ Unicode.isLower c = low c ∧ (Unicode.isUpper c || Unicode.isTitle c) = (decide (65 ≤ c) && decide (c ≤ 90)) := by
  have := List.all_eq_true.mp uni c (List.mem_range.mpr h)
  simp only [Bool.and_eq_true, beq_iff_eq] at this
  exact ⟨this.1, this.2.1, this.2.2⟩
theorem nm_prog {x : PySem.Str} (h1 : 1 ≤ x.length) (h2 : x.length ≤ 8) : nm x = (Txt.isascii x && (Txt.isalpha x && Txt.islower x)) := by
  have e1 : nm x = x.cps.toList.all low := by unfold nm; rw [decide_eq_true h1, decide_eq_true h2] <;> rfl
  have a0 : Txt.isascii x = x.cps.toList.all fun c => decide (c < 128) := by unfold Txt.isascii; rw [← Array.all_toList] <;> rfl
  have a1 : Txt.isalpha x = x.cps.toList.all Unicode.isAlpha := by unfold Txt.isalpha; rw [← Array.all_toList, decide_eq_true (show x.length > 0 from h1), Bool.true_and]
  have a2 : Txt.islower x = (x.cps.toList.any Unicode.isLower && !x.cps.toList.any fun c => Unicode.isUpper c || Unicode.isTitle c) := by unfold Txt.islower; rw [← Array.any_toList, ← Array.any_toList]
  have hl : x.cps.toList.length = x.length := by simp [Str.length]
  rw [e1, a0, a1, a2]
  have hne : x.cps.toList ≠ [] := fun e => by rw [e] at hl; simp at hl; omega
  generalize x.cps.toList = l at hne
  rw [Bool.eq_iff_iff]
  simp only [Bool.and_eq_true, List.all_eq_true, List.any_eq_true, Bool.not_eq_true', decide_eq_true_eq, Bool.or_eq_true]
  constructor
  · intro h
    have hb : ∀ c ∈ l, c < 128 := fun c hc => by have := h c hc; unfold low at this; simp at this; omega
    refine ⟨hb, fun c hc => by rw [(uni_at (hb c hc)).1, h c hc, Bool.or_true], ?_, ?_⟩
    · obtain ⟨c, r, rfl⟩ := List.exists_cons_of_ne_nil hne
      exact ⟨c, List.mem_cons_self, by rw [(uni_at (hb c List.mem_cons_self)).2.1, h c List.mem_cons_self]⟩
    · rw [List.any_eq_false]
      intro c hc
      rw [(uni_at (hb c hc)).2.2]
      have := h c hc; unfold low at this; simp at this ⊢; omega
  · rintro ⟨hb, ha, _, hu⟩ c hc
    have q1 := ha c hc
    rw [(uni_at (hb c hc)).1] at q1
    have q2 := (List.any_eq_false.mp hu) c hc
    rw [(uni_at (hb c hc)).2.2] at q2
    cases hl : low c with
    | true => rfl
    | false => rw [hl, Bool.or_false] at q1; exact absurd q1 q2
theorem alpha_list : alpha.cps.toList = (List.range 26).map (97 + ·) := by decide +kernel
theorem alpha_has (c : Nat) : alpha.cps.contains c = low c := by
  rw [Bool.eq_iff_iff, Array.contains_iff_mem, ← Array.mem_toList_iff, alpha_list, List.mem_map]
  unfold low
  simp only [List.mem_range, Bool.and_eq_true, decide_eq_true_eq]
  constructor
  · rintro ⟨a, h, rfl⟩; omega
  · rintro ⟨h1, h2⟩; exact ⟨c - 97, by omega, by omega⟩
theorem takeWhile_all {p : Nat → Bool} : ∀ {l : List Nat}, (∀ c ∈ l, p c = true) → l.takeWhile p = l
  | [], _ => rfl
  | a :: l, h => by rw [List.takeWhile_cons, if_pos (h a (by simp)), takeWhile_all fun c hc => h c (by simp [hc])]
theorem takeWhile_le (p : Nat → Bool) : ∀ l : List Nat, (l.takeWhile p).length ≤ l.length
  | [] => Nat.le_refl _
  | a :: l => by
    rw [List.takeWhile_cons]
    split
    · simp only [List.length_cons]; have := takeWhile_le p l; omega
    · simp
theorem takeWhile_lt {p : Nat → Bool} : ∀ {l : List Nat}, (∃ c ∈ l, p c = false) → (l.takeWhile p).length < l.length
  | [], h => by obtain ⟨c, hc, _⟩ := h; cases hc
  | a :: l, h => by
    rw [List.takeWhile_cons]
    split
    · rename_i ha
      have : ∃ c ∈ l, p c = false := by
        obtain ⟨c, hc, hp⟩ := h
        rcases List.mem_cons.mp hc with rfl | hc
        · rw [ha] at hp; cases hp
        · exact ⟨c, hc, hp⟩
      have := takeWhile_lt this
      simp only [List.length_cons]; omega
    · simp
theorem drop_takeWhile_head {p : Nat → Bool} : ∀ {l : List Nat}, (l.takeWhile p).length < l.length → ∃ c ∈ l.drop (l.takeWhile p).length, p c = false
  | [], h => by simp at h
  | a :: l, h => by
    cases ha : p a with
    | false => exact ⟨a, by rw [List.takeWhile_cons, if_neg (by rw [ha]; simp)]; simp, ha⟩
    | true =>
      rw [List.takeWhile_cons, if_pos ha] at h ⊢
      simp only [List.length_cons] at h
      obtain ⟨c, hc, hp⟩ := drop_takeWhile_head (p := p) (l := l) (by omega)
      exact ⟨c, by simpa using hc, hp⟩
theorem strip_nil {x : PySem.Str} (h1 : 1 ≤ x.length) : decide (Txt.stripChars x alpha = "") = x.cps.toList.all low := by
  have hg : alpha.cps.contains = low := funext alpha_has
  have es : (("" : PySem.Str)) = ⟨#[]⟩ := by decide +kernel
  have hl : x.cps.toList.length = x.length := by simp [Str.length]
  have hsub : ∀ lo hi, lo ≤ hi → hi ≤ x.length → (Builtin.Str.strSub x lo hi).length = hi - lo := fun lo hi h1 h2 => by
    show (x.cps.extract lo hi).size = hi - lo
    rw [Array.size_extract]
    have : x.cps.size = x.length := rfl
    omega
  have hz : ∀ y : PySem.Str, y = ("" : PySem.Str) ↔ y.length = 0 := fun y => by
    rw [es]
    constructor
    · rintro rfl; rfl
    · intro h
      obtain ⟨a⟩ := y
      have : a.size = 0 := h
      rw [Array.eq_empty_of_size_eq_zero this]
  rw [Bool.eq_iff_iff, decide_eq_true_eq, hz, List.all_eq_true]
  unfold Txt.stripChars Txt.stripBy
  rw [hg]
  constructor
  · intro h c hc
    cases hcl : low c with
    | true => rfl
    | false =>
      exfalso
      have t1 := takeWhile_lt (p := low) ⟨c, hc, hcl⟩
      split at h
      · omega
      · unfold stripped at h
        have elo : stripLo low true x = (x.cps.toList.takeWhile low).length := rfl
        have ehi : stripHi low true x (stripLo low true x) = x.length - ((x.cps.toList.drop (stripLo low true x)).reverse.takeWhile low).length := rfl
        obtain ⟨d, hd, hdl⟩ := drop_takeWhile_head t1
        have t2 := takeWhile_lt (p := low) (l := (x.cps.toList.drop (stripLo low true x)).reverse) ⟨d, by rw [elo]; exact List.mem_reverse.mpr hd, hdl⟩
        rw [List.length_reverse, List.length_drop] at t2
        rw [hsub _ _ (by omega) (by omega)] at h
        omega
  · intro h
    have t1 : x.cps.toList.takeWhile low = x.cps.toList := takeWhile_all h
    have elo : stripLo low true x = x.length := by show (x.cps.toList.takeWhile low).length = _; rw [t1, hl]
    have ehi : stripHi low true x x.length = x.length := by
      show x.length - ((x.cps.toList.drop x.length).reverse.takeWhile low).length = _
      rw [List.drop_eq_nil_of_le (by omega)] <;> rfl
    have hs : stripSame low true true x = false := by
      unfold stripSame
      rw [elo]
      have : (x.length == 0) = false := by simp; omega
      rw [this, Bool.false_and]
    rw [hs, if_neg (by simp)]
    unfold stripped
    rw [elo, ehi, hsub _ _ (Nat.le_refl _) (Nat.le_refl _)]
    omega
end K1

/-! The text by places; is_name. -/
namespace M46
open PySem PySem.Spec PyProof.Rows L2 R0 K1

def top (i : Nat) : Stmt := PySem.Challenge.pw_letterrules_k47_markings_joined.main.body.getD i (.Pass ⟨0, 0, 0, 0⟩)
abbrev sIsName : Stmt := top 14
abbrev sCheck : Stmt := top 19
abbrev sKept : Stmt := top 20
abbrev sLess : Stmt := top 21
abbrev sInit : Stmt := inClass (top 22) 0
abbrev sOf : Stmt := inClass (top 22) 1
abbrev sEven : Stmt := inClass (top 22) 2
abbrev sOther : Stmt := inClass (top 22) 3
abbrev sKinds : Stmt := inClass (top 22) 4
abbrev sWordOf : Stmt := inClass (top 22) 5
abbrev sWith : Stmt := inClass (top 22) 6
abbrev sAtMost : Stmt := inClass (top 22) 7
abbrev sGet : Stmt := inClass (top 22) 8
abbrev sLen : Stmt := inClass (top 22) 11
abbrev sIter : Stmt := inClass (top 22) 12
abbrev sEq : Stmt := inClass (top 22) 13
abbrev sStr : Stmt := inClass (top 22) 14
abbrev sTaken : Stmt := inClass (top 23) 0
abbrev sDice : Stmt := top 49
abbrev sPull : Stmt := top 50
abbrev sPick : Stmt := top 51
abbrev sNames : Stmt := top 52
abbrev sWords : Stmt := top 53
/-- built-in names that the top leaves alone -/
structure Bare (mg : PySem.Str → Option Value) : Prop where
  int : mg "int" = none
  abs : mg "abs" = none
  max : mg "max" = none
  min : mg "min" = none
  len : mg "len" = none
  rng : mg "range" = none
  isi : mg "isinstance" = none
  str : mg "str" = none
  tup : mg "tuple" = none
  bool : mg "bool" = none
  all : mg "all" = none
  any : mg "any" = none
  dict : mg "dict" = none
  list : mg "list" = none
  sort : mg "sorted" = none
  iter : mg "iter" = none
def w0 : S := "nothing"
def w1 : S := "numbers"
def w2 : S := "notes"
def W3 : List S := [w0, w1, w2]
def oth : S := "other"
/-- names of the top that others use -/
structure Cst (K : PySem.W.Frag) (mg : PySem.Str → Option Value) : Prop where
  ln : ∃ t, mg "LONGEST_NAME" = some (.int 8 t)
  ws : ∃ a, mg "WORDS" = some (.ref a) ∧ (∃ o, K.lookup a = some o ∧ o.cls = .type "tuple" ∧ o.dict = none) ∧ ∀ H, SqT K H a (W3.map V.str)
theorem unlock_eq {H : Hp} {d D : Addr} {f u o : HO} (hd : H d = some u) (hD : H D = none) : upd (upd (upd H d f) D o) d u = upd H D o := by
  have hne : d ≠ D := ne_of_none hd hD
  funext b
  by_cases e : b = d
  · rw [e, upd_same, upd_ne hne, hd]
  · rw [upd_ne e]
    by_cases e2 : b = D
    · rw [e2, upd_same, upd_same]
    · rw [upd_ne e2, upd_ne e2, upd_ne e]
theorem same_upd {H : Hp} {D : Addr} {o : HO} (h : H D = none) : Same H (upd H D o) := fun b u e => by rw [upd_ne (ne_of_none e h)]; exact e
def spIsName : Sp := fun vs H Q _ => ∃ x : S, vs = [.str x] ∧ x.length ≤ 1000 ∧ Q (.bl (nm x)) H
section
variable {P : Program} {w : World} {K : PySem.W.Frag} {mg : PySem.Str → Option Value} {base : Heap}
theorem scIsName : FnScope ["value"] ["value"] (defScope sIsName) := ⟨rfl, rfl, rfl, by decide +kernel, rfl, by decide +kernel, by decide +kernel⟩
theorem ok_is_name {f : Addr} {fd : FuncData} (F : Fun K "is_name" "is_name" sIsName f fd) (T : Bare mg) (C : Cst K mg) : FnOk P w K mg base CX0 1 f fd ["value"] spIsName := by
  refine F.ok scIsName (fun vs H Q E h => ?_) (fun cdv A outer s H vs Q E hr h => ?_)
  · obtain ⟨x, rfl, _⟩ := h
    rfl
  · obtain ⟨x, rfl, hx, q⟩ := h
    obtain ⟨tl, ml⟩ := C.ln
    refine ⟨_, (pss_cons (ps_if (PW.pt (pw_or (pt_not (pt_val (pe_callB call_isi (by rfl) T.isi (by decide +kernel) (pa_cons (pv 0) (pa_cons (pe_bltn (v := .ty "str") (by rfl) T.str (by decide +kernel) rfl) pa_nil))))) (pw_or1 (pt_not (pt_chain op_le op_le pe_int (pe_callB call_len_str (by rfl) T.len (by decide +kernel) (pa_cons (pv 0) pa_nil)) (pe_glob (v := .int 8) rfl ml ⟨_, rfl⟩)))))) (pss_one (ps_ret pe_bl)) pss_nil)
      (pss_one (ps_ret (pe_and (pe_bm0 PySem.F.plainAttrs_str PySem.F.slot_str_isascii PySem.F.type_str_isascii mt_isascii (pv 0)) (pe_and (pe_bm0 PySem.F.plainAttrs_str PySem.F.slot_str_isalpha PySem.F.type_str_isalpha mt_isalpha (pv 0)) (pe_one (pe_bm0 PySem.F.plainAttrs_str PySem.F.slot_str_islower PySem.F.type_str_islower mt_islower (pv 0)))))))), ?_⟩
    refine ⟨_, rfl, _, .ty "str", _, .type "str", true, rfl, .ty _, .base (.str x), kit_ty (by decide +kernel), true, rfl, ?_⟩
    refine ⟨_, rfl, x, rfl, (by rw [sizeLine_eq]; omega), _, _, rfl, rfl, _, rfl, ?_⟩
    refine ite2 (fun h1 => ?_) (fun h1 => ?_)
    · refine ⟨_, _, rfl, rfl, _, rfl, ?_⟩
      have h1' : 1 ≤ x.length := by have := of_decide_eq_true h1; omega
      by_cases h2 : x.length ≤ 8
      · have e : decide ((x.length : Int) ≤ 8) = true := decide_eq_true (by omega)
        rw [e]
        refine ⟨_, rfl, rfl, x, rfl, rfl, trivial, _, rfl, ?_⟩
        have z := nm_prog h1' h2
        cases ha : Txt.isascii x with
        | false => rw [ha] at z; show Q (.bl false) H; rw [show nm x = false from z] at q; exact q
        | true =>
          refine ⟨_, rfl, rfl, x, rfl, rfl, trivial, _, rfl, ?_⟩
          cases hb : Txt.isalpha x with
          | false => rw [ha, hb] at z; show Q (.bl false) H; rw [show nm x = false from z] at q; exact q
          | true =>
            refine ⟨_, rfl, rfl, x, rfl, rfl, trivial, ?_⟩
            rw [ha, hb] at z
            rw [show nm x = Txt.islower x from z] at q
            exact q
      · have e : decide ((x.length : Int) ≤ 8) = false := decide_eq_false (by omega)
        rw [e]
        have z : nm x = false := by unfold nm; rw [decide_eq_false h2, Bool.false_and, Bool.and_false]
        rw [z] at q
        exact q
    · have h1' : ¬ 1 ≤ x.length := by have := of_decide_eq_false (Bool.eq_false_iff.mpr h1); omega
      have z : nm x = false := by unfold nm; rw [decide_eq_false h1', Bool.false_and]
      rw [z] at q
      exact ⟨_, rfl, q⟩
end
end M46

/-! _check_words. -/
namespace M46
open PySem PySem.Spec PyProof.Rows L2 R0 K1

/-- words by kinds that are fine -/
structure Wok (ws : List (S × S)) : Prop where
  nm : ∀ k ∈ ws.map (·.1), nm k = true
  vs : ∀ v ∈ ws.map (·.2), v ∈ W3
  nd : (ws.map (·.1)).Nodup
  len : ws.length ≤ 40
theorem nm_len {x : S} (h : nm x = true) : x.length ≤ 8 := by
  unfold nm at h
  rw [Bool.and_eq_true, Bool.and_eq_true] at h
  exact of_decide_eq_true h.2.1
theorem inV_w3 {v : S} (h : v ∈ W3) : inV (.str v) (W3.map V.str) = true := by
  unfold inV
  rw [List.any_map, List.any_eq_true]
  exact ⟨v, h, by simp [Function.comp, eqV]⟩
def spCheck : Sp := fun vs H Q _ => ∃ (d : Addr) (ws : List (S × S)), vs = [.ref d] ∧ H d = some (.dK (wd ws)) ∧ Wok ws ∧ ∀ H', Same H H' → Q .non H'
theorem all_true (n : List V) : (n.filterMap fun _ => some (V.bl true)) = (n.map fun _ => true).map V.bl := by
  induction n with
  | nil => rfl
  | cons a n ih =>
    show V.bl true :: (n.filterMap fun _ => some (V.bl true)) = _
    rw [ih]
    rfl
theorem all_id (n : List V) : (n.map fun _ => true).all id = true := by
  rw [List.all_map]
  exact List.all_eq_true.mpr fun _ _ => rfl
section
variable {P : Program} {w : World} {K : PySem.W.Frag} {mg : PySem.Str → Option Value} {base : Heap}
theorem scCheck : FnScope ["words", "kind", "word"] ["words"] (defScope sCheck) := ⟨rfl, rfl, rfl, by decide +kernel, rfl, by decide +kernel, by decide +kernel⟩
theorem ok_check {f fN : Addr} {fd fdN : FuncData} (F : Fun K "_check_words" "_check_words" sCheck f fd) (T : Bare mg) (C : Cst K mg) (FN : Fun K "is_name" "is_name" sIsName fN fdN) (bN : Binds K fdN ["value"] []) (mN : mg "is_name" = some (.ref fN)) : FnOk P w K mg base CX0 2 f fd ["words"] spCheck := by
  have GN : FnOk P w K mg base CX0 1 fN fdN ["value"] spIsName := ok_is_name FN T C
  refine F.ok scCheck (fun vs H Q E h => ?_) (fun cdv A outer s H vs Q E hr h => ?_)
  · obtain ⟨d, ws, rfl, _⟩ := h
    rfl
  · obtain ⟨d, ws, rfl, hd, ok, q⟩ := h
    obtain ⟨aW, mW, kW, hW⟩ := C.ws
    refine ⟨_, (pss_cons (ps_if (PW.pt (pw_or (pt_not (pt_val (pe_callB call_isi (by rfl) T.isi (by decide +kernel) (pa_cons (pv 0) (pa_cons (pe_bltn (v := .ty "dict") (by rfl) T.dict (by decide +kernel) rfl) pa_nil))))) (pw_or1 (pt_not (pt_val (pe_callB (cr_all rfl) (by rfl) T.all (by decide +kernel) (pa_cons (pe_lock (pe_lc (own := [("kind", 1)]) (g := gName 1) (tt := tYes) rfl scCheck.nd (pi_keys (pv 0)) (blkOk_by (own := [("kind", 1)]) (N := ["words", "kind", "word"]) (sc := defScope sCheck) (by decide +kernel)) (fun _ _ _ _ _ => pg_name (i := 1) scCheck.nd rfl (Or.inl rfl)) (fun _ _ _ _ _ => pts_nil) (fun _ _ _ _ _ => (pe_call GN hr (by rfl) mN FN.kp bN .nil pass0 (pa_cons (pv 1) pa_nil))))) pa_nil))))))) (pss_one ps_never) pss_nil)
      (pss_one (ps_if (pt_not (pt_val (pe_callB (cr_all rfl) (by rfl) T.all (by decide +kernel) (pa_cons (pe_lock (pe_lc (own := [("word", 2)]) (g := gName 2) (tt := tYes) rfl scCheck.nd (pi_values (pv 0)) (blkOk_by (own := [("word", 2)]) (N := ["words", "kind", "word"]) (sc := defScope sCheck) (by decide +kernel)) (fun _ _ _ _ _ => pg_name (i := 2) scCheck.nd rfl (Or.inl rfl)) (fun _ _ _ _ _ => pts_nil) (fun _ _ _ _ _ => (pe_cmpR (r := rIn K false) (by exact op_in_seq) (pv 2) (pe_glob (v := .ref aW) rfl mW rfl) (by rfl))))) pa_nil)))) (pss_one ps_never) pss_nil))), ?_⟩
    refine ⟨_, rfl, _, .ty "dict", _, .type "dict", true, rfl, .ty _, .base (.dK hd), kit_ty (by decide +kernel), true, rfl, ?_⟩
    have hz : ((wd ws).map fun kv => kV kv.1).length ≤ 1000 := by rw [List.length_map, wd_len]; have := ok.len; omega
    have hz2 : ((wd ws).map (·.2)).length ≤ 1000 := by rw [List.length_map, wd_len]; have := ok.len; omega
    refine ⟨d, _, hd, trivial, fun od => ⟨_, rfl, d, od, rfl, .inl ⟨wd ws, upd_same, fun D n0 => ?_⟩⟩⟩
    have hdD : d ≠ D := ne_of_none upd_same n0
    have n0' : H D = none := by rw [upd_ne hdD.symm] at n0; exact n0
    refine lc_ex wk_keys (fun _ => some (V.bl true)) (fun ys => by rw [upd_ne hdD, upd_same]) hz (fun i x ys R N hx hR hN => ⟨rfl, ?_⟩) ?_
    · obtain ⟨k, v, hk, rfl⟩ : ∃ k v, (k, v) ∈ ws ∧ x = .str k := by
        unfold wd at hx
        rw [List.map_map, List.getElem?_map] at hx
        cases e : ws[i]? with
        | none => rw [e] at hx; cases hx
        | some p =>
          rw [e] at hx
          obtain rfl := Option.some.inj hx
          exact ⟨p.1, p.2, List.mem_of_getElem? e, rfl⟩
      have hn := ok.nm k (List.mem_map.mpr ⟨_, hk, rfl⟩)
      refine ⟨_, rfl, k, rfl, by have := nm_len hn; omega, ?_⟩
      rw [hn]
      exact hR _ rfl
    · refine ⟨by rw [upd_ne hdD, upd_same], ?_⟩
      rw [unlock_eq hd n0']
      refine ⟨D, _, rfl, SqL.of (upd_same.trans (by rw [all_true])), ?_⟩
      rw [all_id]
      refine ⟨true, rfl, ?_⟩
      have hd1 : (upd H D (.lst (((wd ws).map fun kv => kV kv.1).filterMap fun _ => some (V.bl true)))) d = some (.dK (wd ws)) := by rw [upd_ne hdD]; exact hd
      have s1 : Same H (upd H D (.lst (((wd ws).map fun kv => kV kv.1).filterMap fun _ => some (V.bl true)))) := same_upd n0'
      generalize upd H D (.lst (((wd ws).map fun kv => kV kv.1).filterMap fun _ => some (V.bl true))) = G at hd1 s1 ⊢
      refine ⟨d, _, hd1, trivial, fun od => ⟨_, rfl, d, od, _, rfl, upd_same, fun D2 m0 => ?_⟩⟩
      have hdD2 : d ≠ D2 := ne_of_none upd_same m0
      have m0' : G D2 = none := by rw [upd_ne hdD2.symm] at m0; exact m0
      refine lc_ex wk_vals (fun _ => some (V.bl true)) (fun ys => by rw [upd_ne hdD2, upd_same]) hz2 (fun i x ys R N hx hR hN => ⟨rfl, ?_⟩) ?_
      · obtain ⟨k, v, hk, rfl⟩ : ∃ k v, (k, v) ∈ ws ∧ x = .str v := by
          unfold wd at hx
          rw [List.map_map, List.getElem?_map] at hx
          cases e : ws[i]? with
          | none => rw [e] at hx; cases hx
          | some p =>
            rw [e] at hx
            obtain rfl := Option.some.inj hx
            exact ⟨p.1, p.2, List.mem_of_getElem? e, rfl⟩
        have hn := inV_w3 (ok.vs v (List.mem_map.mpr ⟨_, hk, rfl⟩))
        refine ⟨_, rfl, aW, _, rfl, .inr (hW _), rfl, flat_strs _, ?_⟩
        show R (.bl (inV (.str v) (W3.map V.str))) _
        rw [hn]
        exact hR _ rfl
      · refine ⟨by rw [upd_ne hdD2, upd_same], ?_⟩
        rw [unlock_eq hd1 m0']
        refine ⟨D2, _, rfl, SqL.of (upd_same.trans (by rw [all_true])), ?_⟩
        rw [all_id]
        exact ⟨true, rfl, q _ (s1.trans (same_upd m0'))⟩
end
end M46

/-! _kept_words. -/
namespace M46
open PySem PySem.Spec PyProof.Rows L2 R0 K1

/-- the word of what has none of its own -/
def rest (ws : List (S × S)) : S := gw ws w0 oth
def spKept : Sp := fun vs H Q _ => ∃ (d : Addr) (ws : List (S × S)), vs = [.ref d] ∧ H d = some (.dK (wd ws)) ∧ Wok ws ∧
  ∀ (H' : Hp) (q t : Addr) (ys : List S), Same H H' → H q = none → ys.Perm (ws.map (·.1)) → sortedS ys = true → H' q = some (.dK (wd (kept ys (gw ws (rest ws)) (rest ws)))) → H' t = some (.tup [.ref q, .str (rest ws)]) → Q (.ref t) H'
theorem fm_kept {f : S → S} {r : S} : ∀ {ys : List S}, ((ys.map V.str).filterMap fun x => match x with | .str k => if f k ≠ r then some (k, f k) else none | _ => none) = kept ys f r
  | [] => rfl
  | y :: ys => by
    unfold kept keep
    rw [List.map_cons]
    by_cases h : f y ≠ r
    · rw [List.filterMap_cons_some (b := (y, f y)) (by show (if f y ≠ r then some (y, f y) else none) = _; rw [if_pos h]), List.filter_cons_of_pos (by simpa using h), List.map_cons, fm_kept]
      rfl
    · rw [List.filterMap_cons_none (by show (if f y ≠ r then some (y, f y) else none) = _; rw [if_neg h]), List.filter_cons_of_neg (by simpa using h), fm_kept]
      rfl
section
variable {P : Program} {w : World} {K : PySem.W.Frag} {mg : PySem.Str → Option Value} {base : Heap}
theorem scKept : FnScope ["words", "other", "kind"] ["words"] (defScope sKept) := ⟨rfl, rfl, rfl, by decide +kernel, rfl, by decide +kernel, by decide +kernel⟩
theorem ok_kept {f fN fC : Addr} {fd fdN fdC : FuncData} (F : Fun K "_kept_words" "_kept_words" sKept f fd) (T : Bare mg) (C : Cst K mg) (FN : Fun K "is_name" "is_name" sIsName fN fdN) (bN : Binds K fdN ["value"] []) (mN : mg "is_name" = some (.ref fN))
    (FC : Fun K "_check_words" "_check_words" sCheck fC fdC) (bC : Binds K fdC ["words"] []) (mC : mg "_check_words" = some (.ref fC)) : FnOk P w K mg base CX0 3 f fd ["words"] spKept := by
  have GC : FnOk P w K mg base CX0 2 fC fdC ["words"] spCheck := ok_check FC T C FN bN mN
  refine F.ok scKept (fun vs H Q E h => ?_) (fun cdv A outer s H vs Q E hr h => ?_)
  · obtain ⟨d, ws, rfl, _⟩ := h
    rfl
  · obtain ⟨d, ws, rfl, hd, ok, q⟩ := h
    obtain ⟨aW, mW, kW, hW⟩ := C.ws
    have hr1 : Room 2 _ := hr
    have hu := hu_of hr
    refine ⟨_, (pss_cons (ps_expr (pe_call GC hr1 (by rfl) mC FC.kp bC .nil pass0 (pa_cons (pv 0) pa_nil)))
      (pss_cons (ps_set (i := 1) scKept.nd rfl (Or.inr rfl) (pe_dget2 hu (pv 0) pe_str (pe_ix ix_tup (pe_glob (v := .ref aW) rfl mW rfl) pe_int (fun _ _ => rfl)) ⟨rfl, rfl, rfl, rfl⟩))
      (pss_one (ps_ret (pe_tup (pa_cons (pe_dc (own := [("kind", 2)]) (g := gName 2) rfl scKept.nd (pi_list (pe_callB (R0.call_sortedD rfl) (by rfl) T.sort (by decide +kernel) (pa_cons (pv 0) pa_nil))) (blkOk_by (own := [("kind", 2)]) (N := ["words", "other", "kind"]) (sc := defScope sKept) (by decide +kernel)) (fun _ _ _ _ _ => pg_name (i := 2) scKept.nd rfl (Or.inl rfl)) (fun _ _ _ _ _ => (pts_one (pt_cmpR (r := rNe) (by exact op_ne) (pe_dget hu (pv 0) (pv 2) (fun _ _ => rfl)) (pv 1) (nomark _)))) (fun _ _ _ _ _ => (pv 2)) (fun _ _ _ _ _ => (pe_dget hu (pv 0) (pv 2) (fun _ _ => rfl)))) (pa_cons (pv 1) pa_nil))))))), ?_⟩
    refine ⟨_, rfl, d, ws, rfl, hd, ok, fun G sG => ?_⟩
    have hdG := sG _ _ hd
    refine ⟨_, rfl, d, rfl, .inl ⟨_, .inl hdG⟩, aW, _, _, .str w0, rfl, rfl, hW _, rfl, _, DGet.k (k := Sum.inr oth) hdG, ?_⟩
    rw [val_gw]
    show _
    refine ⟨_, rfl, d, ws, rfl, .inl hdG, by have := ok.len; omega, fun ys p py sy hp => ⟨p, rfl, ⟨_, SqL.of upd_same⟩, fun D n0 => ?_⟩⟩
    have hpD : p ≠ D := ne_of_none upd_same n0
    have hdp : d ≠ p := ne_of_none hdG hp
    have hD0 : G D = none := by rw [upd_ne hpD.symm] at n0; exact n0
    have hdD : d ≠ D := ne_of_none hdG hD0
    have hyl : ys.length = ws.length := by rw [py.length_eq, List.length_map]
    have hyn : ys.Nodup := py.nodup_iff.mpr ok.nd
    refine dc_ex wk_list (fun x => match x with | .str k => if gw ws (rest ws) k ≠ rest ws then some (k, gw ws (rest ws) k) else none | _ => none) (fun zs => SqL.of (by rw [upd_ne hpD, upd_same])) (by rw [List.length_map]; have := ok.len; omega) (by rw [fm_kept, kept_keys]; exact hyn.filter _) (fun i x zs R N hx hR hN => ⟨rfl, ?_⟩) ?_
    · obtain ⟨k, hk, rfl⟩ : ∃ k, k ∈ ys ∧ x = .str k := by
        rw [List.getElem?_map] at hx
        cases e : ys[i]? with
        | none => rw [e] at hx; cases hx
        | some p =>
          rw [e] at hx
          exact ⟨p, List.mem_of_getElem? e, (Option.some.inj hx).symm⟩
      have hkw : k ∈ ws.map (·.1) := py.mem_iff.mp hk
      have hdd : (upd (upd G p (.lst (ys.map V.str))) D (.dK (wd zs))) d = some (.dK (wd ws)) := by rw [upd_ne hdD, upd_ne hdp]; exact hdG
      have hv := val_mem (r := rest ws) hkw
      have hg : DGet (upd (upd G p (.lst (ys.map V.str))) D (.dK (wd zs))) d (.str k) (some (.str (gw ws (rest ws) k))) := by
        rw [← hv]
        exact DGet.k (k := Sum.inr k) hdd
      refine ⟨_, rfl, _, rfl, d, _, rfl, hg, _, rfl, rfl, _, rfl, ?_⟩
      refine ite2 (fun h1 => ?_) (fun h1 => ?_)
      · have hne : gw ws (rest ws) k ≠ rest ws := fun e => by
          rw [e] at h1
          simp at h1
          exact h1 rfl
        exact ⟨_, rfl, _, rfl, _, rfl, d, _, rfl, hg, hR (k, gw ws (rest ws) k) (by show (if gw ws (rest ws) k ≠ rest ws then _ else _) = _; rw [if_pos hne])⟩
      · have he : gw ws (rest ws) k = rest ws := by
          have h2 : decide (V.str (gw ws (rest ws) k) = V.str (rest ws)) = true := by
            cases e : decide (V.str (gw ws (rest ws) k) = V.str (rest ws)) with
            | true => rfl
            | false => exact absurd (by rw [show (gw ws w0 oth) = rest ws from rfl, e]; rfl) h1
          exact V.str.inj (of_decide_eq_true h2)
        exact hN (by show (if gw ws (rest ws) k ≠ rest ws then _ else _) = _; rw [if_neg (fun z => z he)])
    · rw [fm_kept]
      refine ⟨_, rfl, (by show 2 ≤ sizeLine; rw [sizeLine_eq]; decide), fun t ht => ?_⟩
      have htD : D ≠ t := ne_of_none upd_same ht
      refine q _ D t ys (((sG.trans (same_upd hp)).trans (same_upd n0)).trans (same_upd ht)) ?_ py sy (by rw [upd_ne htD]; exact upd_same) upd_same
      cases e : H D with
      | none => rfl
      | some u => rw [sG _ _ e] at hD0; cases hD0
end
end M46

/-! An attribute as a target; a dict behind a star; a tuple of a dict's keys; dicts behind two stars. -/
namespace R0
open PySem PySem.Spec PyProof.Rows L2

section
variable {X : Cx}
/-- o.f as a target -/
def gAtt (K : PySem.W.Frag) (to : TE) (f : PySem.Str) : TG := fun v σ H Q => to σ H fun x H1 => ∃ a C dx fs, x = .ref a ∧ H1 a = some (.ins C dx fs) ∧ Cls K C ∧ NoAttr K C f ∧ fs.length < 1000 ∧ Q σ (upd H1 a (.ins C dx (putF f v fs)))
theorem pg_att {o : Expr} {f : PySem.Str} {pos : Pos} {to : TE} (ho : PE X o to)
    (ha : ∀ v, assign (.Attribute o f pos) X.env v = (holding [v] (eval o X.env) >>= fun ov => standAt pos.atName >>= fun _ => holding [v, ov] (setAttr ov f v) >>= fun _ => release [v, ov] []) := by intro _; rfl) :
    PG X (.Attribute o f pos) (gAtt X.K to f) := by
  refine ⟨fun pins s σ H v u Q I r h => ?_⟩
  rw [ha]
  refine wpAny_bind (wpAny_holding (thn (ho.run pins s σ H _ I h) fun ov s1 ⟨x, H1, I1, r1, a, C, dx, fs, ex, ea, c, n, l, q⟩ => ?_))
  subst ex
  obtain rfl : ov = Value.ref a := r1
  refine wpAny_bind (wpAny_standAt (wpAny_bind (wpAny_holding (setattr_ok I1 ea c n l r fun s2 I2 => ?_))))
  exact wpAny_release ⟨σ, _, I2, q⟩

/-- *e, e's value a dict of ints and texts: its keys -/
def tStarD (te : TE) (t : TA) : TA := fun σ H Q => te σ H fun x H1 => ∃ p kvs, x = V.ref p ∧ Rd H1 p (.dK kvs) ∧ t σ H1 fun ys H2 => Q (kvs.map (fun kv => kV kv.1) ++ ys) H2
theorem keys_vals {P : Program} {w : World} {kvs : List (Key × V)} {vs : List (Key × Value)} (rk : KV kvs vs) {acc : Array Value} (h : ItemsOf (fun i v => ∃ k x, vs[i]? = some (k, x) ∧ (mixKind P w).is k v = true) acc vs.length) : Vals (kvs.map fun kv => kV kv.1) acc.toList := by
  have hl : kvs.length = vs.length := Paired.length rk
  have el : acc.toList.length = acc.size := by simp
  refine vals_of_at (by rw [List.length_map, el, h.1, hl]) fun j x u h1 h2 => ?_
  obtain ⟨k, y, hky, hi⟩ := h.2 j u (by rw [← Array.getElem?_toList]; exact h2)
  have e1 : (kvs.map (·.1))[j]? = some k := by rw [KV.keys rk, List.getElem?_map, hky] <;> rfl
  have e3 : (kvs.map fun kv => kV kv.1) = (kvs.map (·.1)).map kV := by rw [List.map_map] <;> rfl
  rw [e3, List.getElem?_map, e1] at h1
  cases h1
  exact keyIs_rel hi
theorem star_dK {pins : List (Addr × Obj)} {σ : L2.St} {H : Hp} {s : Shared} {a : Addr} {kvs : List (Key × V)} {E : Value → Shared → Prop} {Q : List Value → Shared → Prop} (hc : X.calm = true) (I : Inv X pins σ H s) (h : Rd H a (.dK kvs))
    (hQ : ∀ us s', Inv X pins σ H s' → Vals (kvs.map fun kv => kV kv.1) us → Q us s') : PySem.W.StarOf (model X.prog X.w) X.A E (.ref a) Q s := by
  obtain ⟨z, lo, vs, rk, dd⟩ := dk_rd I.hok h
  obtain ⟨ep, hat⟩ := dd.dictAt
  have hl : kvs.length = vs.length := Paired.length rk
  have c : wpAny (model X.prog X.w) X.A (collect (.ref a)) Q E s := by
    refine PySem.W.kdu_collect (PySem.W.kdl_dict (knd := mixKind X.prog X.w) (kvs := vs) (ep := ep) lo) (I.ok.hd hc) hat (by rw [← hl]; exact z) fun h' tk acc hk hacc => ?_
    exact hQ _ _ (I.kept (t' := tk) hk) (keys_vals rk hacc)
  unfold PySem.W.StarOf notIterableAtAll
  exact wpAny_bind (wpAny_specialOf dd.typeIs PySem.F.slot_dict_iter.lookup (wpAny_pure ⟨rfl, c⟩))
theorem pa_starD {e : Expr} {es : List Expr} {te : TE} {t : TA} {p : Pos} (hc : X.calm = true) (he : PE X e te) (hr : PA X es t) (hs : starEach (.Starred e p :: es) X.env = (true, eval e X.env) :: starEach es X.env := by rfl) : PA X (.Starred e p :: es) (tStarD te t) := by
  refine ⟨fun pos pins s σ H Q I h => ?_⟩
  refine PySem.W.items_star (thn (he.run pins s σ H _ I h) fun v s1 ⟨y, H1, I1, ry, a, kvs, ey, hx, q⟩ => ?_) hs
  subst ey
  obtain rfl : v = Value.ref a := ry
  refine star_dK hc I1 hx fun us s2 I2 rv => ?_
  exact thn (hr.run pos pins s2 σ H1 _ I2 q) fun ws s3 ⟨vs, H3, I3, r3, q3⟩ => ⟨_ ++ vs, H3, I3, rv.append r3, q3⟩
end
end R0

/-! tuple(d) of a dict; one dict put into another. -/
namespace R0
open PySem PySem.Spec PyProof.Rows L2

section
variable {prog : Program} {w : World} {A : Around} {E : Value → Shared → Prop} {s : Shared} {T : String} {r d : Addr} {n : Nat} {P : Nat → Value → Prop} {OK : Heap → Prop}
theorem tuple_of_src {Q : Value → Shared → Prop} (K : PySem.W.KdlSrc prog w T r d n P OK) (hh : A.handled = none) (hok : OK s.heap) (hn : n ≤ sizeLine)
    (h : ∀ (h' : Heap) (tk : Nat) (acc : Array Value), (∀ b o, s.heap.get? b = some o → h'.get? b = some o) → ItemsOf P acc n → Q (.ref h'.objs.size) { s with heap := h'.push { cls := .type "tuple", data := .seq acc }, toks := tk }) :
    wpAny (model prog w) A (call (.type "tuple") [.ref r]) Q E s := by
  have hTI : s.TypeIs (.ref r) T := K.type s hok
  have hne : T ≠ "tuple" := fun e => by
    have z := K.notTuple
    rw [e] at z
    simp at z
  refine callType_codes (Q₁ := fun obj s₁ => s₁.TypeIs obj "tuple" ∧ Q obj s₁) F.called_tuple (F.typeCall_tuple_1 _) F.entry_object_init ?_ fun obj s₁ h₁ => ⟨h₁.1, F.args_object_init_2 obj _, object_init_meets F.called_tuple.init.lookup F.called_tuple.made (by decide) prog w A.in1 _ s₁ ⟨h₁.1, rfl, h₁.2⟩⟩
  refine codeAny_of_tree (wpAny_bind (wpAny_of_eq (F.newCall_tuple_1 _) (wpAny_pure ⟨plainId_quiet F.plain_tuple_new _, codeAny_builtin F.entry_tuple_new ?_⟩)))
  rw [Around.under_plainId F.plain_tuple_new _]
  have h1 := sub_tuple_self
  have h2 := init_tuple_lookup
  have h3 := madeHere_tuple
  have hh1 : A.in1.in1.handled = none := hh
  wp_walk using wpAny_typeOf hTI, PySem.W.kdu_collect K hh1 hok hn
  intro h' tk acc hk hacc
  refine wpAny_bind (wpAny_pure ?_)
  unfold Builtin.Tuple.tupleExact
  refine wpAny_bind (wpAny_newObj_type (wpAny_pure ?_) (by rw [Array.toArray_toList]; exact Nat.le_trans (Nat.le_of_eq hacc.1) hn))
  have e : acc.toList.toArray = acc := Array.toArray_toList
  rw [e]
  exact ⟨⟨_, Heap.get?_push_size _ rfl, rfl⟩, h h' tk acc hk hacc⟩
end
/-- tuple(d): a new tuple of the keys -/
theorem call_tuple_dK {X : Cx} (hc : X.calm = true) : CallR X (.type "tuple") (fun xs H Q => ∃ p kvs, xs = [V.ref p] ∧ Rd H p (.dK kvs) ∧ ∀ q, H q = none → Q (.ref q) (upd H q (.tup (kvs.map fun kv => kV kv.1)))) := by
  intro pins s σ H xs us Q I r h
  obtain ⟨p, kvs, rfl, hk, q⟩ := h
  obtain ⟨u, rfl, rx⟩ := r.one
  obtain rfl : u = Value.ref p := rx
  obtain ⟨z, lo, vs, rk, dd⟩ := dk_rd I.hok hk
  obtain ⟨ep, hat⟩ := dd.dictAt
  have hl : kvs.length = vs.length := Paired.length rk
  refine tuple_of_src (PySem.W.kdl_dict (knd := mixKind X.prog X.w) (kvs := vs) (ep := ep) lo) (I.ok.hd hc) hat (by rw [← hl]; exact z) fun h' tk acc hkeep hacc => ?_
  have I1 : Inv X pins σ H { s with heap := h', toks := tk } := I.kept hkeep
  have I2 := I1.laid (a := h'.objs.size) (o := .tup (kvs.map fun kv => kV kv.1)) (h' := h'.push { cls := .type "tuple", data := .seq acc }) (t' := tk) (fun _ _ q => Heap.get?_push_of_some _ q) (Nat.le_refl _)
    ⟨by rw [List.length_map]; exact z, acc.toList, keys_vals rk hacc, _, Heap.get?_push_size _ rfl, rfl, 0, by rw [Array.toArray_toList]⟩
  exact ⟨.ref h'.objs.size, _, I2, rfl, q _ (I1.hok.fresh (Nat.le_refl _))⟩

section
variable {prog : Program} {w : World} {κ : Type} [DecidableEq κ] {knd : KeyKind prog w κ} {A : Around} {E : Value → Shared → Prop} {s : Shared} {d a : Addr}
/-- a key and its value laid into a dict -/
theorem put_pairs {kvs : List (κ × Value)} {k : κ} {key v : Value} {Q : Unit → Shared → Prop} (hkey : knd.is k key = true) (hm : s.heap.DictOf knd d kvs) (hz : kvs.length ≤ sizeLine)
    (hQ : ∀ h', h'.DictOf knd d (stored kvs k v) → Heap.SameBut d s.heap h' → Q () { s with heap := h' }) : wpAny (model prog w) A (dictPut d (knd.hash k) key v) Q E s := by
  obtain ⟨o, es, ep, ho, hc, hd, hk, hp, hn⟩ := hm
  have hes : es.size ≤ sizeLine := by
    have e1 := hp.length
    rw [Array.length_toList] at e1
    omega
  have hix : (es.findIdx? fun e => knd.is k e.key) = kvs.findIdx? fun kv => decide (kv.1 = k) := by
    have := hp.findIdx k
    rw [← this]
    obtain ⟨l⟩ := es
    simp
  unfold dictPut
  refine wpAny_bind (wpAny_dictFind_of hkey ho hd hk ?_)
  cases hi : es.findIdx? fun e => knd.is k e.key with
  | some i =>
    have hst : stored kvs k v = kvs.map fun kv => if kv.1 = k then (kv.1, v) else kv := by rw [stored, if_pos (any_of_findIdx_some (hix ▸ hi))]
    refine wpAny_updateDict ho hd (hQ _ ⟨_, _, ep, Heap.get?_update_self _ ho (Obj.isFreed_of_dict (Obj.data_mapDict hd _)), hc.mapDict _, Obj.data_mapDict hd _, hk.modify _ _, ?_, ?_⟩ (Heap.SameBut.update ..))
    · rw [hst]
      have hl : (es.toList.findIdx? fun e => knd.is k e.key) = some i := by rw [← hi]; obtain ⟨l⟩ := es; simp
      have := hp.modify hn hl v
      obtain ⟨l⟩ := es
      simpa using this
    · rw [hst, keys_map_store]
      exact hn
  | none =>
    have hno : k ∉ kvs.map (·.1) := not_mem_of_findIdx_none (hix ▸ hi)
    have hst : stored kvs k v = kvs ++ [(k, v)] := by
      rw [stored, if_neg]
      rw [List.any_eq_true]
      rintro ⟨kv, h1, h2⟩
      exact hno (List.mem_map.mpr ⟨kv, h1, of_decide_eq_true h2⟩)
    refine wpAny_updateDictKeys (hz := hes) ho hd (hQ _ ⟨_, _, ep + 1, Heap.get?_update_self _ ho (Obj.isFreed_of_dict (Obj.data_mapDictKeys hd _)), hc.mapDictKeys _, Obj.data_mapDictKeys hd _, hk.push hkey _, ?_, ?_⟩ (Heap.SameBut.update ..))
    · rw [hst]
      have := hp.append hkey (knd.hash k) v
      obtain ⟨l⟩ := es
      simpa using this
    · rw [hst, List.map_append, List.nodup_append]
      refine ⟨hn, by simp, fun x hx y hy e => ?_⟩
      rw [show y = k by simpa using hy] at e
      exact hno (e ▸ hx)
/-- a whole dict of texts and numbers laid into another -/
theorem merge_pairs {kvs more : List (κ × Value)} {Q : Unit → Shared → Prop} (hne : d ≠ a) (hS : (a == sysModules) = false) (hd : s.heap.DictOf knd d kvs) (ha : s.heap.DictOf knd a more) (hz : kvs.length + more.length ≤ sizeLine)
    (hnr : ∀ k v, knd.is k v = true → ∀ b, v ≠ .ref b)
    (hQ : ∀ h', h'.DictOf knd d (merged kvs more) → Heap.SameBut d s.heap h' → Q () { s with heap := h' }) : wpAny (model prog w) A (mergeMapping d (.ref a) false) Q E s := by
  obtain ⟨oa, es, ep, hoa, hca, hda, hka, hpa, hna⟩ := id ha
  obtain ⟨od, es0, ep0, hod, hcd, hdd, _⟩ := id hd
  have hlen : more.length = es.size := by rw [← hpa.length, Array.length_toList]
  unfold mergeMapping
  have hT : s.TypeIs (.ref a) "dict" := ⟨oa, hoa, hca.1⟩
  refine wpAny_bind (wpAny_isInstance (b := true) hT (by rw [isSubtype_type]; kernel_rfl) ?_)
  rw [if_pos rfl]
  refine wpAny_bind (wpAny_specialOf hT PySem.F.slot_dict_iter.lookup ?_)
  refine wpAny_bind (wpAny_pure ?_)
  show wpAny _ _ (if (a == sysModules) = true then _ else _) _ _ _
  rw [if_neg (by rw [hS]; exact Bool.false_ne_true)]
  refine wpAny_bind (wpAny_dictEntries hod hdd ?_)
  show wpAny _ _ (if es0.isEmpty = true then _ else _) _ _ _
  refine wpAny_ite_split (fun _ => ?pre) (fun _ => ?main)
  case' pre =>
    refine wpAny_bind (wpAny_dictEntries hoa hda ?_)
    refine wpAny_bind ?_
    rw [← Array.forIn_toList]
    refine wpAny_forIn_list _ (fun rest _ s' => s' = s ∧ ∀ e ∈ rest, e ∈ es.toList) _ (fun e rest b s' hI => ?turn) (fun b s' hI => ?fin) _ _ ⟨rfl, fun e h => h⟩
    case turn =>
      obtain ⟨rfl, hm⟩ := hI
      obtain ⟨k, hk, _⟩ := hka e (Array.mem_toList_iff.mp (hm e List.mem_cons_self))
      have nr := hnr k e.key hk
      split
      · exact absurd (by assumption) (nr _)
      · exact wpAny_pure ⟨rfl, fun x hx => hm x (List.mem_cons_of_mem _ hx)⟩
    case' fin =>
      rw [hI.1]
  all_goals
    refine wpAny_bind (wpAny_dictEntries hoa hda ?_)
    refine wpAny_bind (wpAny_dictEpoch hoa hda ?_)
    refine wpAny_bind ?_
    refine wpAny_forIn_list _ (fun rest _ s' => ∃ h' i, s' = { s with heap := h' } ∧ rest = List.range' i (es.size - i) ∧ i ≤ es.size ∧ h'.DictOf knd d (merged kvs (more.take i)) ∧ h'.get? a = some oa ∧ Heap.SameBut d s.heap h') _ (fun x rest b s' hI => ?_) (fun b s' hI => ?_) _ _ ?_
    · obtain ⟨h', i, rfl, hr, hi, hd', hoa', hs'⟩ := hI
      have hlt : i < es.size := Nat.lt_of_not_le fun h => by
        rw [Nat.sub_eq_zero_of_le h] at hr
        cases hr
      rw [show es.size - i = (es.size - (i + 1)) + 1 by omega, List.range'_succ] at hr
      obtain ⟨rfl, hrest⟩ := List.cons.inj hr
      refine wpAny_bind (wpAny_dictEntries hoa' hda ?_)
      rw [Array.getElem?_eq_getElem hlt]
      have hm : x < more.length := by rw [hlen]; exact hlt
      obtain ⟨hkey, hval⟩ := hpa.get? (e := es[x]) (by simp [hlt]) (List.getElem?_eq_getElem hm)
      obtain ⟨k', hk', hh'⟩ := hka es[x] (Array.getElem_mem hlt)
      obtain rfl : k' = more[x].1 := knd.inj _ _ _ hk' hkey
      have hz' : (merged kvs (more.take x)).length ≤ sizeLine := by
        have := merged_length_le kvs (more.take x)
        rw [List.length_take] at this
        omega
      refine wpAny_bind (wpAny_holding ?_)
      show wpAny _ _ (dictPut d es[x].hash es[x].key es[x].val) _ _ _
      rw [hh', hval]
      refine put_pairs (s := { s with heap := h' }) hkey hd' hz' fun h2 hd2 hs2 => ?_
      have hoa2 : h2.get? a = some oa := (hs2.2 a (Ne.symm hne)).trans hoa'
      refine wpAny_bind (wpAny_dictEpoch hoa2 hda ?_)
      rw [if_neg (by simp)]
      refine wpAny_pure ⟨h2, x + 1, rfl, hrest, hlt, ?_, hoa2, hs'.trans hs2⟩
      rw [merged_take_succ kvs more x more[x] (List.getElem?_eq_getElem hm)]
      exact hd2
    · obtain ⟨h', i, rfl, hr, hi, hd', hoa', hs'⟩ := hI
      have hle : es.size ≤ i := Nat.le_of_not_lt fun h => by
        rw [show es.size - i = (es.size - (i + 1)) + 1 by omega, List.range'_succ] at hr
        cases hr
      rw [show i = more.length by rw [hlen]; omega, List.take_length] at hd'
      exact wpAny_pure (hQ h' hd' hs')
    · exact ⟨s.heap, 0, rfl, by rw [List.range_eq_range', Nat.sub_zero], Nat.zero_le _, by rw [List.take_zero]; exact hd, hoa, Heap.SameBut.refl _ _⟩
end
end R0

/-! {**a, k: v, ..}. -/
namespace R0
open PySem PySem.Spec PyProof.Rows L2

theorem run_on (d : Addr) (f : (Option (Sem Value) × Sem Value) → (Option Addr × List (Sem Value × Sem Value)) → Sem (ForInStep (Option Addr × List (Sem Value × Sem Value))))
    (hf : ∀ (p : Sem Value × Sem Value) (run : List (Sem Value × Sem Value)), run.length < 16 → f (some p.1, p.2) (some d, run) = pure (.yield (some d, run ++ [p]))) :
    ∀ (items run : List (Sem Value × Sem Value)), run.length + items.length ≤ 16 → forIn (items.map fun p => (some p.1, p.2)) (some d, run) f = pure (some d, run ++ items)
  | [], run, _ => by simp
  | p :: r, run, h => by
    rw [List.length_cons] at h
    rw [List.map_cons, List.forIn_cons, hf p run (by omega), pure_bind]
    have z := run_on d f hf r (run ++ [p]) (by rw [List.length_append, List.length_singleton]; omega)
    rw [List.append_assoc] at z
    exact z
section
variable {prog : Program} {w : World} {A : Around} {E : Value → Shared → Prop} {s : Shared}
theorem wp_dd {pairs : List (Sem Value × Sem Value)} {v0 : Sem Value} {Q : Value → Shared → Prop} (h0 : pairs ≠ []) (hlen : pairs.length ≤ 15)
    (h : wpAny (model prog w) A v0 (fun m s1 => wpAny (model prog w) A (mergeMapping s.heap.objs.size m false) (fun _ s2 => wpAny (model prog w) A (subDict pairs) (fun q s3 => wpAny (model prog w) A (mergeMapping s.heap.objs.size (.ref q) false) (fun _ s4 => Q (.ref s.heap.objs.size) s4) (fun _ _ => False) s3) E s2) (fun _ _ => False) s1) E
      { s with heap := s.heap.push { cls := .type "dict", data := .dict #[] } }) :
    wpAny (model prog w) A (dictDisplay ((none, v0) :: pairs.map fun p => (some p.1, p.2))) Q E s := by
  unfold dictDisplay
  dsimp only
  rw [List.forIn_cons]
  refine wpAny_bind ?_
  refine wpAny_bind ?_
  dsimp only [List.isEmpty_nil]
  rw [if_pos rfl, pure_bind]
  dsimp only
  refine wpAny_bind (wpAny_alloc ?_)
  refine wpAny_bind (wpAny_holding (wpAny_mono h (fun m s1 hm => ?_) fun _ _ z => z))
  refine wpAny_bind (wpAny_onRaise (wpAny_tryCatch (wpAny_onRaise (wpAny_holding (wpAny_mono hm (fun _ s2 h2 => ?_) fun _ _ z => z.elim)))))
  refine wpAny_pure ?_
  dsimp only
  rw [run_on s.heap.objs.size _ (fun p run hl => by
    have hne : ((run ++ [(p.1, p.2)]).length == 17) = false := by rw [List.length_append, List.length_singleton, beq_eq_false_iff_ne]; omega
    dsimp only
    rw [hne, if_neg Bool.false_ne_true]) pairs [] (by rw [List.length_nil]; omega)]
  refine wpAny_pure ?_
  dsimp only
  have he : ([] ++ pairs).isEmpty = false := by
    cases pairs with
    | nil => exact absurd rfl h0
    | cons p r => rfl
  rw [he, if_neg Bool.false_ne_true]
  dsimp only [List.nil_append]
  refine wpAny_bind (wpAny_bind (wpAny_holding (wpAny_mono h2 (fun q s3 h3 => ?_) fun _ _ z => z)))
  refine wpAny_bind (wpAny_onRaise (wpAny_holding (wpAny_mono h3 (fun _ s4 h4 => ?_) fun _ _ z => z.elim)))
  exact wpAny_pure (wpAny_pure h4)
end
end R0

/-! {**a, k: v, ..}: the rule. -/
namespace R0
open PySem PySem.Spec PyProof.Rows L2

section
variable {X : Cx}
theorem mix_noref {P : Program} {w : World} : ∀ (k : Key) (v : Value), (mixKind P w).is k v = true → ∀ b, v ≠ .ref b := fun k v h b e => by
  rcases keyIs_shape h with ⟨i, t, _, e2⟩ | ⟨x, t, _, e2⟩ <;> rw [e] at e2 <;> cases e2
theorem merge_dK {pins : List (Addr × Obj)} {σ : L2.St} {H : Hp} {s : Shared} {d a : Addr} {k0 k1 : List (Key × V)} {E : Value → Shared → Prop} {Q : Unit → Shared → Prop} (I : Inv X pins σ H s) (hd : H d = some (.dK k0)) (ha : Rd H a (.dK k1)) (hne : d ≠ a) (hz : k0.length + k1.length ≤ 10000)
    (h : ∀ s', Inv X pins σ (upd H d (.dK (mergeK k0 k1))) s' → Q () s') : wpAny (model X.prog X.w) X.A (mergeMapping d (.ref a) false) Q E s := by
  obtain ⟨_, lo, v0, r0, d0⟩ := dk_of I.hok hd
  obtain ⟨_, lo1, v1, r1, d1⟩ := dk_rd I.hok ha
  have l0 : k0.length = v0.length := Paired.length r0
  have l1 : k1.length = v1.length := Paired.length r1
  refine merge_pairs hne lo1 d0 d1 (by rw [sizeLine_eq]; omega) mix_noref fun h' hd' hs => ?_
  have hx : (mergeK k0 k1).length ≤ sizeLine := by
    have := length_mergeK k1 k0
    rw [sizeLine_eq]; omega
  have he : ∃ q, h'.get? d = some q := let ⟨q, _, _, hq, _⟩ := hd'; ⟨q, hq⟩
  exact h _ (d_write (t' := s.toks) I (by rw [hd]; exact True.intro) hs he (dk_new hx lo (r1.merge r0) hd'))
/-- {**e, k: v, ..} -/
def tDD (te : TE) (trs : List (TE × TE)) : TE := fun σ H Q => ∀ p, H p = none → te σ (upd H p (.dK [])) fun x H1 => ∃ a kvs, x = V.ref a ∧ Rd H1 a (.dK kvs) ∧ a ≠ p ∧ H1 p = some (.dK []) ∧ kvs.length ≤ 1000 ∧
  ∀ q, (upd H1 p (.dK (mergeK [] kvs))) q = none → tPairs trs σ (upd (upd H1 p (.dK (mergeK [] kvs))) q (.dK [])) fun ps H2 => H2 p = some (.dK (mergeK [] kvs)) ∧ H2 q = some (.dK []) ∧ ∃ more : List (Key × V), ps = more.map (fun kv => (kV kv.1, kv.2)) ∧ more.length ≤ 15 ∧
    Q (.ref p) (upd (upd H2 q (.dK (mergeK [] more))) p (.dK (mergeK (mergeK [] kvs) (mergeK [] more))))
theorem pe_dd {pos : Pos} {ks : List (Option Expr)} {e : Expr} {vs : List Expr} {te : TE} {trs : List (TE × TE)} (he : PE X e te) (h : PPs X pos ks vs trs) (hall : ks.all (·.isSome) = true) (hl : ks.length = vs.length) (h0 : ks ≠ []) (h15 : ks.length ≤ 15) : PE X (.Dict (none :: ks) (e :: vs) pos) (tDD te trs) := by
  refine ⟨fun pins s σ H Q I q => ?_⟩
  have hn := I.hok.fresh (Nat.le_refl s.heap.objs.size)
  have I1 := I.laid (a := s.heap.objs.size) (o := .dK []) (h' := s.heap.push { cls := .type "dict", data := .dict #[] }) (t' := s.toks) (fun _ _ q => Heap.get?_push_of_some _ q) (Nat.le_refl _) (dk_empty s.heap I.big)
  have hpl := pairTrees_length ks vs X.env pos hall hl
  rw [arm_eval_Dict]
  refine wpAny_bind (wpAny_standAt ?_)
  have hshape : (evalEachOpt (none :: ks) X.env).zip ((evalEach (e :: vs) X.env).map fun v => do let x ← v; standAt pos; pure x) = (none, (do let x ← eval e X.env; standAt pos; pure x)) :: (pairTrees ks vs X.env pos).map fun p => (some p.1, p.2) := by
    rw [← zip_pairTrees ks vs X.env pos hall hl]
    rfl
  rw [hshape]
  refine wp_dd (fun z => ?_) (by rw [hpl]; exact h15) ?_
  · rw [z] at hpl
    exact h0 (List.length_eq_zero_iff.mp hpl.symm)
  · refine wpAny_bind (thn (he.run pins _ σ _ _ I1 (q _ hn)) fun v s1 ⟨x, H1, I2, rx, a, kvs, ex, ha, hne, hp, hz, q2⟩ => wpAny_bind (wpAny_standAt (wpAny_pure ?_)))
    subst ex
    obtain rfl : v = Value.ref a := rx
    refine merge_dK I2 hp ha (Ne.symm hne) (by rw [List.length_nil]; omega) fun s2 I3 => ?_
    have hn3 := I3.hok.fresh (Nat.le_refl s2.heap.objs.size)
    have I4 := I3.laid (a := s2.heap.objs.size) (o := .dK []) (h' := s2.heap.push { cls := .type "dict", data := .dict #[] }) (t' := s2.toks) (fun _ _ q => Heap.get?_push_of_some _ q) (Nat.le_refl _) (dk_empty s2.heap I3.big)
    refine wpAny_subDict (knd := mixKind X.prog X.w) (by rw [hpl]; exact h15) (thn (h.run pins _ σ _ _ I4 (q2 _ hn3)) fun ws s3 ⟨ps, H2, I5, rel, e1, e2, more, ep, lk, q3⟩ => ?_)
    subst ep
    obtain ⟨rs, c, rk⟩ := carries_of (P := X.prog) (w := X.w) rel
    obtain ⟨z, hd, vs0, r0, dd⟩ := dk_of I5.hok e2
    cases r0
    refine ⟨rs, c, dd, fun h' dd' hs => ?_⟩
    have hm : (mergeK [] more).length ≤ 15 := by
      have h1 := length_mergeK more []
      rw [List.length_nil] at h1
      omega
    have he' : ∃ q, h'.get? s2.heap.objs.size = some q := let ⟨q, _, _, hq, _⟩ := dd'; ⟨q, hq⟩
    have I6 := d_write (t' := s3.toks + ws.length) I5 (by rw [e2]; exact True.intro) hs he' (dk_new (by rw [sizeLine_eq]; omega) hd (rk.merge .nil) dd')
    have hpq : s.heap.objs.size ≠ s2.heap.objs.size := fun z => by
      rw [← z, upd_same] at hn3
      cases hn3
    have hkl : (mergeK [] kvs).length ≤ 1000 := by
      have h1 := length_mergeK kvs []
      rw [List.length_nil] at h1
      omega
    refine merge_dK I6 (k0 := mergeK [] kvs) (by rw [upd_ne hpq]; exact e1) (Rd.of upd_same) hpq (by omega) fun s4 I7 => ?_
    exact ⟨.ref s.heap.objs.size, _, I7, rfl, q3⟩
end
end R0

/-! Keywords bound: some keyword-only names, the rest in a dict of its own. -/
namespace R0
open PySem PySem.Spec PyProof.Rows L2

/-- names with values as keys with values -/
def nmK {α : Type} (ex : List (PySem.Str × α)) : List (Key × α) := ex.map fun x => (Sum.inr x.1, x.2)
section
variable {prog : Program} {w : World} {A : Around} {E : Value → Shared → Prop} {s : Shared} {d : Addr}
/-- a new name laid into a dict -/
theorem ns_new {kvs : List (Key × Value)} {n : PySem.Str} {v : Value} {Q : Unit → Shared → Prop} (hm : s.heap.DictOf (mixKind prog w) d kvs) (hf : Sum.inr n ∉ kvs.map (·.1)) (hz : kvs.length ≤ sizeLine)
    (hQ : ∀ h', h'.DictOf (mixKind prog w) d (kvs ++ [(Sum.inr n, v)]) → Heap.SameBut d s.heap h' → Q () { s with heap := h', toks := s.toks + 1 }) : wpAny (model prog w) A (nsSet d n v) Q E s := by
  obtain ⟨o, es, ep, ho, hc, hd, hk, hp, hn⟩ := hm
  have hst : ∀ e ∈ es, e.key.isStr n = false := fun e he => by
    obtain ⟨k, hk1, _⟩ := hk e he
    cases q : e.key.isStr n with
    | false => rfl
    | true =>
      exfalso
      rcases keyIs_shape hk1 with ⟨i, t, e1, e2⟩ | ⟨x, t, e1, e2⟩
      · rw [e2] at q; cases q
      · rw [e2] at q
        have ex : x = n := by simpa [Value.isStr] using q
        subst ex
        obtain ⟨i, hi, ei⟩ := Array.getElem_of_mem he
        have hl : i < kvs.length := by rw [← hp.length, Array.length_toList]; exact hi
        obtain ⟨a1, _⟩ := hp.get? (i := i) (e := e) (by rw [Array.getElem?_toList, Array.getElem?_eq_getElem hi, ei]) (List.getElem?_eq_getElem hl)
        have : kvs[i].1 = k := (mixKind prog w).inj _ _ _ a1 hk1
        refine hf (List.mem_map.mpr ⟨kvs[i], List.getElem_mem hl, ?_⟩)
        rw [this, e1]
  have e1 : es.any (·.key.isStr n) = false := by
    rw [Array.any_eq_false']
    intro e he
    rw [hst e he]
    exact Bool.false_ne_true
  have e2 : es.any (·.refKey) = false := by
    rw [Array.any_eq_false']
    intro e he
    obtain ⟨k, hk1, _⟩ := hk e he
    rcases keyIs_shape hk1 with ⟨i, t, _, q⟩ | ⟨x, t, _, q⟩ <;> simp [DictEntry.refKey, q]
  have e3 : es.findIdx? (·.key.isStr n) = none := by
    rw [Array.findIdx?_eq_none_iff]
    intro e he
    exact hst e he
  have ec : aRefKeyMayBeTheName n es = false := by rw [aRefKeyMayBeTheName_at, e2, Bool.and_false]
  unfold nsSet
  refine wpAny_bind (wpAny_bind (wpAny_askSetting (wpAny_pure (wpAny_bind (wpAny_mkText (wpAny_bind (wpAny_loadPart ho ?_)))))))
  rw [hd]
  dsimp only
  rw [ec, if_neg Bool.false_ne_true]
  refine wpAny_updatePart ho ?_
  refine hQ _ ⟨_, es.push ⟨hashStr w n, .str n s.toks, v⟩, ep + 1, Heap.get?_update_self _ ho (by rw [Obj.putName_eq]; obtain ⟨c, dd, dt, sl⟩ := o; subst hd; simp only [Obj.putNameByArray, e3]; rfl), ?_, ?_, ?_, ?_, ?_⟩ (Heap.SameBut.update ..)
  · obtain ⟨c, dd, dt, sl⟩ := o
    subst hd
    rw [Obj.putName_eq]
    simp only [Obj.putNameByArray, e3]
    exact hc
  · obtain ⟨c, dd, dt, sl⟩ := o
    subst hd
    rw [Obj.putName_eq]
    simp only [Obj.putNameByArray, e3]
    rfl
  · exact hk.push (k := Sum.inr n) (mixKind_str prog w n _) _
  · have z := hp.append (k := Sum.inr n) (mixKind_str prog w n s.toks) (hashStr w n) v
    obtain ⟨l⟩ := es
    simpa using z
  · rw [List.map_append, List.nodup_append]
    refine ⟨hn, by simp, fun x hx y hy e => ?_⟩
    rw [show y = Sum.inr n by simpa using hy] at e
    exact hf (e ▸ hx)
/-- new names laid into a dict, one behind another -/
theorem ns_fill {Q : PUnit → Shared → Prop} : ∀ (ex : List (PySem.Str × Value)) (s : Shared) (kvs : List (Key × Value)), s.heap.DictOf (mixKind prog w) d kvs → ((kvs ++ nmK ex).map (·.1)).Nodup → kvs.length + ex.length ≤ sizeLine →
    (∀ h', h'.DictOf (mixKind prog w) d (kvs ++ nmK ex) → Heap.SameBut d s.heap h' → Q ⟨⟩ { s with heap := h', toks := s.toks + ex.length }) →
    wpAny (model prog w) A (forIn ex PUnit.unit fun x _ => (nsSet d x.1 x.2 >>= fun _ => pure (ForInStep.yield PUnit.unit))) Q E s
  | [], s, kvs, hm, _, _, h => by
    rw [List.forIn_nil]
    refine wpAny_pure (h s.heap ?_ (Heap.SameBut.refl _ _))
    show s.heap.DictOf (mixKind prog w) d (kvs ++ [])
    rw [List.append_nil]
    exact hm
  | x :: r, s, kvs, hm, hn, hz, h => by
    rw [List.length_cons] at hz
    have hf : Sum.inr x.1 ∉ kvs.map (·.1) := fun hx => by
      rw [List.map_append, List.nodup_append] at hn
      exact hn.2.2 _ hx _ (show (Sum.inr x.1 : Key) ∈ (nmK (x :: r)).map (·.1) from List.mem_cons_self) rfl
    rw [List.forIn_cons]
    refine wpAny_bind (wpAny_bind (ns_new hm hf (by omega) fun h' hm' hs' => wpAny_pure ?_))
    refine ns_fill r { s with heap := h', toks := s.toks + 1 } _ hm' ?_ ?_ fun h2 hm2 hs2 => ?_
    · rw [List.append_assoc]
      exact hn
    · rw [List.length_append, List.length_singleton]; omega
    · have z := h h2 (by rw [List.append_assoc] at hm2; exact hm2) (hs'.trans hs2)
      rw [List.length_cons, show s.toks + (r.length + 1) = s.toks + 1 + r.length by omega] at z
      exact z
end
end R0

/-! Keywords bound: one keyword-only name, the rest in a dict of its own. -/
namespace R0
open PySem PySem.Spec PyProof.Rows L2

theorem sort_kw {α : Type} (sel : PySem.Str → Bool) (f : PySem.Str × α → List (PySem.Str × α) × List (PySem.Str × α) → Sem (ForInStep (List (PySem.Str × α) × List (PySem.Str × α))))
    (hi : ∀ x sl ex, sel x.1 = true → sl.lookup x.1 = none → f x (sl, ex) = pure (.yield (sl ++ [x], ex))) (ho : ∀ x sl ex, sel x.1 = false → f x (sl, ex) = pure (.yield (sl, ex ++ [x]))) :
    ∀ (kw sl ex : List (PySem.Str × α)), ((sl ++ kw).map (·.1)).Nodup → forIn kw (sl, ex) f = pure (sl ++ kw.filter (fun x => sel x.1), ex ++ kw.filter fun x => !sel x.1)
  | [], sl, ex, _ => by simp
  | x :: r, sl, ex, hn => by
    rw [List.forIn_cons]
    cases hx : sel x.1 with
    | true =>
      have hl : sl.lookup x.1 = none := by
        cases q : sl.lookup x.1 with
        | none => rfl
        | some v =>
          exfalso
          rw [List.map_append, List.nodup_append] at hn
          obtain ⟨l1, l2, e, _⟩ := List.lookup_eq_some_iff.mp q
          refine hn.2.2 x.1 ?_ x.1 (by simp) rfl
          rw [e]; simp
      rw [hi x sl ex hx hl, pure_bind]
      have z := sort_kw sel f hi ho r (sl ++ [x]) ex (by rw [List.append_assoc]; exact hn)
      refine z.trans ?_
      simp [hx]
    | false =>
      rw [ho x sl ex hx, pure_bind]
      have hn' : ((sl ++ r).map (·.1)).Nodup := by
        refine hn.sublist (List.Sublist.map _ (List.Sublist.append_left (List.sublist_cons_self _ _) _))
      have z := sort_kw sel f hi ho r sl (ex ++ [x]) hn'
      refine z.trans ?_
      simp [hx]
section
variable {prog : Program} {w : World} {A : Around} {E : Value → Shared → Prop} {s : Shared}
variable {x qual : PySem.Str} {params : Arguments} {body : List Stmt} {scope : Scope} {D : Addr} {doc pm cdv ct : Value} {an : Option Addr} {sf o : PySem.Str} {more : Arg}
theorem bind_kw1 {u dv : Value} {kw : List (PySem.Str × Value)} {Q : List (PySem.Str × Value) → Shared → Prop} (h1 : params.posonlyargs.map (·.arg) = []) (h2 : params.args.map (·.arg) = [sf]) (h3 : params.kwonlyargs.map (·.arg) = [o]) (h4 : params.vararg = none) (h5 : params.kwarg = some more)
    (hso : sf ≠ o) (hsf : sf ∉ kw.map (·.1)) (hn : (kw.map (·.1)).Nodup) (hz : kw.length ≤ 1000) (hd : PySem.W.Looks (model prog w) s.heap (nsGet D o) (some dv))
    (h : ∀ h', h'.DictOf (mixKind prog w) s.heap.objs.size (nmK (kw.filter fun q => !decide (q.1 = o))) → Heap.SameBut s.heap.objs.size (s.heap.push { cls := .type "dict", data := .dict #[] }) h' → ∀ t, Q [(sf, u), (o, (kw.lookup o).getD dv), (more.arg, .ref s.heap.objs.size)] { s with heap := h', toks := t }) :
    wpAny (model prog w) A (bindArgs (PySem.W.fnOf x qual params body scope .none (.ref D) doc pm an cdv ct) ⟨[u], kw⟩) Q E s := by
  unfold bindArgs
  dsimp only [PySem.W.fnOf]
  rw [h1, h2, h3, h4, h5]
  rw [sort_kw (fun k => [sf].contains k || [o].contains k) _ (fun q sl ex hq hl => by
    dsimp only at hq ⊢
    rw [if_pos hq, hl, if_neg (by simp)]) (fun q sl ex hq => by
    dsimp only at hq ⊢
    rw [if_neg (by rw [hq]; exact Bool.false_ne_true), if_pos (show (some more).isSome = true from rfl)]) kw _ _ (by
    show ([sf] ++ kw.map (·.1)).Nodup
    exact List.nodup_cons.mpr ⟨hsf, hn⟩)]
  have ef : ∀ q ∈ kw, ([sf].contains q.1 || [o].contains q.1) = decide (q.1 = o) := fun q hq => by
    have hne : q.1 ≠ sf := fun e => hsf (e ▸ List.mem_map_of_mem hq)
    rw [Bool.eq_iff_iff]
    simp [hne]
  have eF : (kw.filter fun x => [sf].contains x.1 || [o].contains x.1).lookup o = kw.lookup o := by
    rw [List.filter_congr ef]
    clear h hn hz hsf ef
    induction kw with
    | nil => rfl
    | cons q r ih =>
      by_cases e : q.1 = o
      · obtain ⟨q1, q2⟩ := q
        obtain rfl : q1 = o := e
        rw [List.filter_cons_of_pos (by simp), List.lookup_cons_self, List.lookup_cons_self]
      · obtain ⟨q1, q2⟩ := q
        rw [List.filter_cons_of_neg (by simpa using e), ih, List.lookup_cons, show (o == q1) = false from beq_eq_false_iff_ne.mpr fun z => e z.symm]
  have eG : (kw.filter fun x => !([sf].contains x.1 || [o].contains x.1)) = kw.filter fun q => !decide (q.1 = o) := List.filter_congr fun q hq => by rw [ef q hq]
  have hG : (kw.filter fun q => !decide (q.1 = o)).length ≤ 1000 := Nat.le_trans (List.length_filter_le _ _) hz
  have nG : ((kw.filter fun q => !decide (q.1 = o)).map (·.1)).Nodup := hn.sublist (List.Sublist.map _ List.filter_sublist)
  rw [eG]
  generalize (kw.filter fun x => [sf].contains x.1 || [o].contains x.1) = F at eF ⊢
  generalize (kw.filter fun q => !decide (q.1 = o)) = G at h hG nG ⊢
  clear ef eG
  rw [pure_bind]
  refine wpAny_bind (wpAny_pure ?_)
  have ls : (([] ++ [sf]).zip [u] ++ F).lookup sf = some u := by
    show ((sf, u) :: F).lookup sf = some u
    exact List.lookup_cons_self
  have lo : (([] ++ [sf]).zip [u] ++ F).lookup o = kw.lookup o := by
    show ((sf, u) :: F).lookup o = kw.lookup o
    rw [List.lookup_cons, show (o == sf) = false from beq_eq_false_iff_ne.mpr (Ne.symm hso)]
    exact eF
  generalize ([] ++ [sf]).zip [u] ++ F = S at ls lo ⊢
  rw [if_neg (by simp)]
  rw [if_neg (by simp [ls])]
  refine wpAny_bind (wpAny_of_eq (show _ = pure S from rfl) ?_)
  have fin : ∀ (S' : List (PySem.Str × Value)) (s' : Shared), S'.lookup sf = some u → S'.lookup o = some ((kw.lookup o).getD dv) → s' = s → wpAny (model prog w) A
      (do let d ← alloc { cls := Value.type "dict", data := Data.dict #[] }
          forIn G PUnit.unit fun x _ => (nsSet d x.1 x.2 >>= fun _ => pure (ForInStep.yield PUnit.unit))
          pure (([] ++ [sf] ++ [o]).filterMap (fun n => (S'.lookup n).map fun x => (n, x)) ++ [(more.arg, Value.ref d)])) Q E s' := by
    rintro S' s' l1 l2 rfl
    refine wpAny_bind (wpAny_alloc ?_)
    refine wpAny_bind (ns_fill G _ [] (Heap.DictOf.new s'.heap) ?_ ?_ fun h' hd' hs' => wpAny_pure ?_)
    · show ((nmK G).map (·.1)).Nodup
      have e : (nmK G).map (·.1) = (G.map (·.1)).map (fun n => (Sum.inr n : Key)) := by unfold nmK; rw [List.map_map, List.map_map]; rfl
      rw [e]
      exact List.Pairwise.map _ (fun a b h e => h (Sum.inr.inj e)) nG
    · rw [List.length_nil, sizeLine_eq]; omega
    · have e : ([] ++ [sf] ++ [o]).filterMap (fun n => (S'.lookup n).map fun x => (n, x)) = [(sf, u), (o, (kw.lookup o).getD dv)] := by
        simp [l1, l2]
      rw [e]
      exact h h' hd' hs' _
  have hgz : ¬ G.length > sizeLine + 1 := by rw [sizeLine_eq]; omega
  rw [List.forIn_cons]
  cases q : kw.lookup o with
  | some v =>
    rw [q] at lo
    dsimp only
    rw [lo, if_neg (by simp), pure_bind]
    dsimp only
    rw [List.forIn_nil, pure_bind]
    dsimp only
    rw [if_neg (by simp)]
    dsimp only [List.nil_append]
    rw [if_neg hgz]
    exact fin S s ls (by rw [lo, q]; rfl) rfl
  | none =>
    rw [q] at lo
    dsimp only
    rw [lo, if_pos (show (none : Option Value).isNone = true from rfl)]
    refine wpAny_bind (wpAny_bind (wpAny_bind (hd.here (wpAny_pure ?_))))
    dsimp only
    rw [List.forIn_nil]
    refine wpAny_pure ?_
    dsimp only
    rw [if_neg (by simp)]
    dsimp only [List.nil_append]
    rw [if_neg hgz]
    refine fin (S ++ [(o, dv)]) s ?_ ?_ rfl
    · rw [List.lookup_append, ls]; rfl
    · rw [List.lookup_append, lo, q]
      show (none.or (List.lookup o [(o, dv)])) = _
      rw [List.lookup_cons_self]; rfl
end
end R0

/-! f(**e): the dict behind the stars laid into a new one, its keys read as names. -/
namespace R0
open PySem PySem.Spec PyProof.Rows L2

section
variable {prog : Program} {w : World} {κ : Type} [DecidableEq κ] {knd : KeyKind prog w κ} {A : Around} {E : Value → Shared → Prop} {s : Shared} {d a : Addr}
theorem find_none {kvs : List (κ × Value)} {k : κ} {key : Value} {Q : Option Nat → Shared → Prop} (hkey : knd.is k key = true) (hm : s.heap.DictOf knd d kvs) (hf : k ∉ kvs.map (·.1)) (h : Q none s) : wpAny (model prog w) A (dictFind d key (knd.hash k)) Q E s := by
  obtain ⟨o, es, ep, ho, hc, hd, hk, hp, hn⟩ := hm
  refine wpAny_dictFind_of hkey ho hd hk ?_
  have hix : (es.findIdx? fun e => knd.is k e.key) = kvs.findIdx? fun kv => decide (kv.1 = k) := by
    have := hp.findIdx k
    rw [← this]
    obtain ⟨l⟩ := es
    simp
  have e0 : (kvs.findIdx? fun kv => decide (kv.1 = k)) = none := List.findIdx?_eq_none_iff.mpr fun x hx => decide_eq_false fun e => hf (by rw [← e]; exact List.mem_map_of_mem hx)
  rw [hix, e0]
  exact h
/-- a whole dict laid into an empty one, where no key may come twice -/
theorem merge_once {more : List (κ × Value)} {Q : Unit → Shared → Prop} (hne : d ≠ a) (hS : (a == sysModules) = false) (hd : s.heap.DictOf knd d []) (ha : s.heap.DictOf knd a more) (hz : more.length ≤ sizeLine)
    (hnr : ∀ k v, knd.is k v = true → ∀ b, v ≠ .ref b)
    (hQ : ∀ h', h'.DictOf knd d more → Heap.SameBut d s.heap h' → Q () { s with heap := h' }) : wpAny (model prog w) A (mergeMapping d (.ref a) true) Q E s := by
  obtain ⟨oa, es, ep, hoa, hca, hda, hka, hpa, hna⟩ := id ha
  obtain ⟨od, es0, ep0, hod, hcd, hdd, _⟩ := id hd
  have hlen : more.length = es.size := by rw [← hpa.length, Array.length_toList]
  unfold mergeMapping
  have hT : s.TypeIs (.ref a) "dict" := ⟨oa, hoa, hca.1⟩
  refine wpAny_bind (wpAny_isInstance (b := true) hT (by rw [isSubtype_type]; kernel_rfl) ?_)
  rw [if_pos rfl]
  refine wpAny_bind (wpAny_specialOf hT PySem.F.slot_dict_iter.lookup ?_)
  refine wpAny_bind (wpAny_pure ?_)
  show wpAny _ _ (if (a == sysModules) = true then _ else _) _ _ _
  rw [if_neg (by rw [hS]; exact Bool.false_ne_true)]
  refine wpAny_bind (wpAny_dictEntries hod hdd ?_)
  show wpAny _ _ (if es0.isEmpty = true then _ else _) _ _ _
  refine wpAny_ite_split (fun _ => ?pre) (fun _ => ?main)
  case' pre =>
    refine wpAny_bind (wpAny_dictEntries hoa hda ?_)
    refine wpAny_bind ?_
    rw [← Array.forIn_toList]
    refine wpAny_forIn_list _ (fun rest _ s' => s' = s ∧ ∀ e ∈ rest, e ∈ es.toList) _ (fun e rest b s' hI => ?turn) (fun b s' hI => ?fin) _ _ ⟨rfl, fun e h => h⟩
    case turn =>
      obtain ⟨rfl, hm⟩ := hI
      obtain ⟨k, hk, _⟩ := hka e (Array.mem_toList_iff.mp (hm e List.mem_cons_self))
      have nr := hnr k e.key hk
      split
      · exact absurd (by assumption) (nr _)
      · exact wpAny_pure ⟨rfl, fun x hx => hm x (List.mem_cons_of_mem _ hx)⟩
    case' fin =>
      rw [hI.1]
  all_goals
    refine wpAny_bind (wpAny_dictEntries hoa hda ?_)
    refine wpAny_bind (wpAny_dictEpoch hoa hda ?_)
    refine wpAny_bind ?_
    refine wpAny_forIn_list _ (fun rest _ s' => ∃ h' i, s' = { s with heap := h' } ∧ rest = List.range' i (es.size - i) ∧ i ≤ es.size ∧ h'.DictOf knd d (more.take i) ∧ h'.get? a = some oa ∧ Heap.SameBut d s.heap h') _ (fun x rest b s' hI => ?_) (fun b s' hI => ?_) _ _ ?_
    · obtain ⟨h', i, rfl, hr, hi, hd', hoa', hs'⟩ := hI
      have hlt : i < es.size := Nat.lt_of_not_le fun h => by
        rw [Nat.sub_eq_zero_of_le h] at hr
        cases hr
      rw [show es.size - i = (es.size - (i + 1)) + 1 by omega, List.range'_succ] at hr
      obtain ⟨rfl, hrest⟩ := List.cons.inj hr
      refine wpAny_bind (wpAny_dictEntries hoa' hda ?_)
      rw [Array.getElem?_eq_getElem hlt]
      have hm : x < more.length := by rw [hlen]; exact hlt
      have hmx : more[x]? = some more[x] := List.getElem?_eq_getElem hm
      obtain ⟨hkey, hval⟩ := hpa.get? (e := es[x]) (by simp [hlt]) hmx
      obtain ⟨k', hk', hh'⟩ := hka es[x] (Array.getElem_mem hlt)
      obtain rfl : k' = more[x].1 := knd.inj _ _ _ hk' hkey
      have hfr : more[x].1 ∉ (more.take x).map (·.1) := by
        rw [← List.take_append_drop x more, List.drop_eq_getElem_cons hm, List.map_append, List.map_cons, List.nodup_append] at hna
        exact fun hx => hna.2.2 _ hx _ List.mem_cons_self rfl
      have hst : stored (more.take x) more[x].1 more[x].2 = more.take (x + 1) := by
        rw [stored, if_neg, List.take_add_one, List.getElem?_eq_getElem hm]
        · rfl
        · rw [List.any_eq_true]
          rintro ⟨kv, h1, h2⟩
          exact hfr (List.mem_map.mpr ⟨kv, h1, of_decide_eq_true h2⟩)
      have hz' : (more.take x).length ≤ sizeLine := by rw [List.length_take]; omega
      refine wpAny_bind (wpAny_holding ?_)
      show wpAny _ _ (dictFind d es[x].key es[x].hash >>= fun r => if r.isSome = true then _ else dictPut d es[x].hash es[x].key es[x].val) _ _ _
      rw [hh', hval]
      refine wpAny_bind (find_none (s := { s with heap := h' }) hkey hd' hfr ?_)
      rw [if_neg (by simp)]
      refine put_pairs (s := { s with heap := h' }) hkey hd' hz' fun h2 hd2 hs2 => ?_
      have hoa2 : h2.get? a = some oa := (hs2.2 a (Ne.symm hne)).trans hoa'
      refine wpAny_bind (wpAny_dictEpoch hoa2 hda ?_)
      rw [if_neg (by simp)]
      exact wpAny_pure ⟨h2, x + 1, rfl, hrest, hlt, by rw [← hst]; exact hd2, hoa2, hs'.trans hs2⟩
    · obtain ⟨h', i, rfl, hr, hi, hd', hoa', hs'⟩ := hI
      have hle : es.size ≤ i := Nat.le_of_not_lt fun h => by
        rw [show es.size - i = (es.size - (i + 1)) + 1 by omega, List.range'_succ] at hr
        cases hr
      rw [show i = more.length by rw [hlen]; omega, List.take_length] at hd'
      exact wpAny_pure (hQ h' hd' hs')
    · exact ⟨s.heap, 0, rfl, by rw [List.range_eq_range', Nat.sub_zero], Nat.zero_le _, by rw [List.take_zero]; exact hd, hoa, Heap.SameBut.refl _ _⟩
end
section
variable {prog : Program} {w : World} {A : Around} {E : Value → Shared → Prop} {s : Shared} {d a : Addr}
/-- the keys of a dict, all of them texts, as names -/
theorem names_in {f : Value} {kw : List (PySem.Str × Value)} {Q : List (PySem.Str × Value) → Shared → Prop} (hd : s.heap.DictOf (mixKind prog w) d (nmK kw)) (h : Q kw s) : wpAny (model prog w) A (keywordsIn f d) Q E s := by
  obtain ⟨o, es, ep, ho, hc, hdd, hk, hp, hn⟩ := hd
  unfold keywordsIn
  refine wpAny_bind (wpAny_dictEntries ho hdd ?_)
  rw [← Array.forIn_toList]
  have hl : es.toList.length = kw.length := by rw [hp.length]; unfold nmK; rw [List.length_map]
  refine wpAny_bind (wpAny_forIn_list _ (fun rest acc s' => s' = s ∧ ∃ i, rest = es.toList.drop i ∧ acc = kw.take i) _ (fun e rest b s' hI => ?_) (fun b s' hI => ?_) _ _ ⟨rfl, 0, rfl, rfl⟩)
  · obtain ⟨rfl, i, hr, rfl⟩ := hI
    have hi : i < es.toList.length := Nat.lt_of_not_le fun z => by
      rw [List.drop_eq_nil_of_le z] at hr
      cases hr
    rw [List.drop_eq_getElem_cons hi] at hr
    obtain ⟨rfl, rfl⟩ := List.cons.inj hr
    have hk2 : i < kw.length := by omega
    have he : (nmK kw)[i]? = some (Sum.inr kw[i].1, kw[i].2) := by unfold nmK; rw [List.getElem?_map, List.getElem?_eq_getElem hk2]; rfl
    obtain ⟨h1, h2⟩ := hp.get? (List.getElem?_eq_getElem hi) he
    have h1' : keyIs (Sum.inr kw[i].1) es.toList[i].key = true := h1
    rcases keyIs_shape h1' with ⟨j, t, e1, e2⟩ | ⟨x, t, e1, e2⟩
    · cases e1
    · obtain rfl : kw[i].1 = x := Sum.inr.inj e1
      rw [e2, h2]
      refine wpAny_pure ⟨rfl, i + 1, rfl, ?_⟩
      rw [List.take_add_one, List.getElem?_eq_getElem hk2]
      rfl
  · obtain ⟨rfl, i, hr, rfl⟩ := hI
    have hi : es.toList.length ≤ i := Nat.le_of_not_lt fun z => by
      rw [List.drop_eq_getElem_cons z] at hr
      cases hr
    rw [List.take_of_length_le (by omega)]
    exact wpAny_pure h
end
end R0

/-! f(**e). -/
namespace R0
open PySem PySem.Spec PyProof.Rows L2

section
variable {prog : Program} {w : World} {A : Around} {E : Value → Shared → Prop} {s : Shared}
theorem wp_ss {f : Value} {t : Sem Value} {pos : Pos} {Q : Value → Shared → Prop} {P : Heap → Prop} (hk : ∀ h, P h → ∃ k, (k = Keeper.frame ∨ k = Keeper.machine ∨ k = Keeper.boundFrame) ∧ PySem.W.Looks (model prog w) h (keeperOf f) k)
    (h : wpAny (model prog w) A t (fun m s1 => ∃ a kw, m = .ref a ∧ s.heap.objs.size ≠ a ∧ (a == sysModules) = false ∧ s1.heap.DictOf (mixKind prog w) s.heap.objs.size [] ∧ s1.heap.DictOf (mixKind prog w) a (nmK kw) ∧ kw.length ≤ 1000 ∧
      ∀ h', h'.DictOf (mixKind prog w) s.heap.objs.size (nmK kw) → Heap.SameBut s.heap.objs.size s1.heap h' → P h' ∧ wpAny (model prog w) A (call f [] kw) Q E { s1 with heap := h' }) E { s with heap := s.heap.push { cls := .type "dict", data := .dict #[] } }) :
    wpAny (model prog w) A (callWith pos f [] [] [(none, t)]) Q E s := by
  have ev : wpAny (model prog w) A (evalArgs f true [] [(none, t)]) (fun a s₁ => a.pos = [] ∧ P s₁.heap ∧ wpAny (model prog w) A (call f a.pos a.kw) Q E s₁) E s := by
    unfold evalArgs
    refine wpAny_bind (wpAny_bind (m := spliced []) (wpAny_pure (wpAny_pure (wpAny_bind (wpAny_pure ?_)))))
    refine wpAny_holding ?_
    rw [if_neg (by simp)]
    refine wpAny_bind ?_
    unfold mergedKeywords
    refine wpAny_bind (wpAny_alloc ?_)
    refine wpAny_bind (wpAny_holding ?_)
    show wpAny _ _ (forIn [((none : Option PySem.Str), t)] [] _ >>= _) _ _ _
    rw [List.forIn_cons]
    refine wpAny_bind (wpAny_bind ?_)
    refine wpAny_bind (m := pure ()) (wpAny_pure ?_)
    refine wpAny_bind (wpAny_mono h (fun m s1 hm => ?_) fun _ _ z => z)
    obtain ⟨a, kw, rfl, hne, hS, hd, ha, hz, hq⟩ := hm
    refine wpAny_bind (wpAny_onRaise (wpAny_holding (wpAny_tryCatch (wpAny_onRaise (merge_once (knd := mixKind prog w) hne hS hd ha (by unfold nmK; rw [List.length_map, sizeLine_eq]; omega) mix_noref fun h' hd' hs' => wpAny_pure ?_)))))
    dsimp only
    rw [List.forIn_nil]
    refine wpAny_pure ?_
    refine wpAny_pure ?_
    obtain ⟨hP, hc⟩ := hq h' hd' hs'
    exact wpAny_pure (wpAny_bind (wpAny_pure (wpAny_bind (wpAny_holding (names_in hd' (wpAny_pure ⟨rfl, hP, hc⟩))))))
  unfold callWith
  refine wpAny_bind (wpAny_holding (thn ev fun a s1 ⟨e1, hP, hc⟩ => wpAny_bind (wpAny_standAt ?_)))
  obtain ⟨ps, kw⟩ := a
  obtain rfl : ps = [] := e1
  obtain ⟨k, hk', L⟩ := hk _ hP
  have end_ : ∀ {u : Sem Value}, wpAny (model prog w) A u Q E s1 → wpAny (model prog w) A (u >>= fun r => holding [r] point >>= fun _ => pure r) Q E s1 := fun hu =>
    wpAny_bind (thn hu fun r s2 hr => wpAny_bind (wpAny_holding (wpAny_point (wpAny_pure hr))))
  refine wpAny_bind (L.here ?_)
  rcases hk' with rfl | rfl | rfl
  · exact end_ (Calls.wpAny_keep hc)
  · exact end_ (wpAny_operating hc)
  · exact end_ (wpAny_operating hc)
end
theorem nmK_back : ∀ {kv : List (PySem.Str × V)} {vs : List (Key × Value)}, KV (nmK kv) vs → ∃ kw : List (PySem.Str × Value), vs = nmK kw ∧ KV kv kw
  | [], vs, r => by
    cases r
    exact ⟨[], rfl, .nil⟩
  | x :: kv, vs, r => by
    obtain ⟨x1, x2⟩ := x
    cases r with
    | @cons p q ps qs h t =>
      obtain ⟨kw, e, rk⟩ := nmK_back (kv := kv) t
      obtain ⟨q1, q2⟩ := q
      obtain ⟨h1, h2⟩ := h
      dsimp only at h1 h2
      refine ⟨(x1, q2) :: kw, ?_, .cons ⟨rfl, h2⟩ rk⟩
      rw [e, ← h1]
      rfl
section
variable {X : Cx} {C f : Addr} {x : PySem.Str} {p pos kp : Pos} {e : Expr} {te : TE}
/-- C(**e): the dict behind the stars, then the class called with its names; R: what must hold of the names and the heap -/
theorem pe_ss {R : List (PySem.Str × V) → Hp → VK → Prop} (hk : PySem.W.keepIn X.K (.ref C) = true) (hg : Gl X x) (hm : X.mg x = some (.ref C)) (he : PE X e te)
    (hrun : ∀ (pins : List (Addr × Obj)) (s : Shared) (σ : L2.St) (H : Hp) (Q : VK) (kv : List (PySem.Str × V)) (kw : List (PySem.Str × Value)), Inv X pins σ H s → KV kv kw → R kv H Q → wpAny (model X.prog X.w) X.A (call (.ref C) [] kw) (EP X pins σ Q) X.xe s)
    (hdb : (x == ("__debug__" : PySem.Str)) = false := by decide) :
    PE X (.Call (.Name x p) [] [⟨none, e, kp⟩] pos) (fun σ H Q => ∀ d, H d = none → te σ (upd H d (.dK [])) fun y H1 => ∃ a kv, y = V.ref a ∧ a ≠ d ∧ Rd H1 a (.dK (nmK kv)) ∧ H1 d = some (.dK []) ∧ kv.length ≤ 1000 ∧ R kv (upd H1 d (.dK (nmK kv))) Q) := by
  refine ⟨fun pins s σ H Q I h => ?_⟩
  refine wpAny_Call_Name_kw (ld_glob I hg hm ?_ hdb)
  have hn := I.hok.fresh (Nat.le_refl s.heap.objs.size)
  have I1 := I.laid (a := s.heap.objs.size) (o := .dK []) (h' := s.heap.push { cls := .type "dict", data := .dict #[] }) (t' := s.toks) (fun _ _ q => Heap.get?_push_of_some _ q) (Nat.le_refl _) (dk_empty s.heap I.big)
  refine wp_ss (P := fun h => X.K.In h) (PySem.W.keeps_K hk) (wpAny_bind (thn (he.run pins _ σ _ _ I1 (h _ hn)) fun v s1 ⟨y, H1, I2, ry, a, kv, ey, hne, ha, hd, hz, q⟩ => wpAny_bind (wpAny_standAt (wpAny_pure ?_))))
  subst ey
  obtain rfl : v = Value.ref a := ry
  obtain ⟨_, lo, vs, rk, dd⟩ := dk_rd I2.hok ha
  obtain ⟨kw, rfl, rkw⟩ := nmK_back rk
  obtain ⟨_, hd1, vs0, r0, d0⟩ := dk_of I2.hok hd
  cases r0
  have hl : kv.length = kw.length := Paired.length rkw
  refine ⟨a, kw, rfl, Ne.symm hne, lo, d0, dd, by omega, fun h' hd' hs' => ?_⟩
  have hzz : (nmK kv).length ≤ sizeLine := by unfold nmK; rw [List.length_map, sizeLine_eq]; omega
  have I3 := d_write (t' := s1.toks) I2 (ob := .dK (nmK kv)) (by rw [hd]; exact True.intro) hs' (let ⟨q, _, _, hq, _⟩ := hd'; ⟨q, hq⟩) (dk_new hzz hd1 rk hd')
  exact ⟨I3.kIn, hrun pins _ σ _ Q kv kw I3 rkw q⟩
end
end R0

/-! A def with one keyword-only name and a dict of the other keywords; a class made by such an __init__. -/
namespace R0
open PySem PySem.Spec PyProof.Rows L2 StX

def FnW (P : Program) (w : World) (K : PySem.W.Frag) (mg : PySem.Str → Option Value) (base : Heap) (CX : CXT) (k : Nat) (f : Addr) (spw : V → List (PySem.Str × V) → Hp → VK → XK → Prop) : Prop :=
  ∀ (A : Around) (outer : List Env) (s : Shared) (H : Hp) (u : Value) (v : V) (kw : List (PySem.Str × Value)) (kv : List (PySem.Str × V)) (Q : VK) (E : XK), Room k A → Env0 P w K mg base A outer s H → RelV v u → KV kv kw → spw v kv H Q E →
    codeAny (model P w) A (.call (.ref f) ⟨[u], kw⟩) (CR CX outer P w H s Q E) s
/-- self, the keyword-only name's value, a new dict of the rest -/
def spW (sf o : PySem.Str) (dv : V) (sp : Sp) : V → List (PySem.Str × V) → Hp → VK → XK → Prop := fun v kv H Q E => sf ∉ kv.map (·.1) ∧ (kv.map (·.1)).Nodup ∧ kv.length ≤ 1000 ∧
  ∀ d, H d = none → sp [v, (kv.lookup o).getD dv, .ref d] (upd H d (.dK (nmK (kv.filter fun q => !decide (q.1 = o))))) Q E
theorem kv_names {kv : List (PySem.Str × V)} {kw : List (PySem.Str × Value)} (r : KV kv kw) : kv.map (·.1) = kw.map (·.1) := by
  unfold KV at r
  induction r with
  | nil => rfl
  | cons h t ih => rw [List.map_cons, List.map_cons, h.1, ih]
theorem kv_look {kv : List (PySem.Str × V)} {kw : List (PySem.Str × Value)} (r : KV kv kw) {dv : V} {du : Value} (hd : RelV dv du) (o : PySem.Str) : RelV ((kv.lookup o).getD dv) ((kw.lookup o).getD du) := by
  unfold KV at r
  induction r with
  | nil => exact hd
  | @cons p q ps qs h t ih =>
    obtain ⟨p1, p2⟩ := p
    obtain ⟨q1, q2⟩ := q
    obtain ⟨h1, h2⟩ := h
    dsimp only at h1 h2
    subst h1
    rw [List.lookup_cons, List.lookup_cons]
    cases o == p1 with
    | true => exact h2
    | false => exact ih
theorem kv_filter {kv : List (PySem.Str × V)} {kw : List (PySem.Str × Value)} (r : KV kv kw) (f : PySem.Str → Bool) : KV (kv.filter fun q => f q.1) (kw.filter fun q => f q.1) := by
  unfold KV at r ⊢
  induction r with
  | nil => exact .nil
  | @cons p q ps qs h t ih =>
    rw [List.filter_cons, List.filter_cons, ← h.1]
    cases f p.1 with
    | true => exact .cons h ih
    | false => exact ih
theorem kv_nmK {kv : List (PySem.Str × V)} {kw : List (PySem.Str × Value)} (r : KV kv kw) : KV (nmK kv) (nmK kw) := by
  unfold KV at r ⊢
  induction r with
  | nil => exact .nil
  | cons h t ih => exact .cons ⟨congrArg Sum.inr h.1, h.2⟩ ih
section
variable {P : Program} {w : World} {K : PySem.W.Frag} {mg : PySem.Str → Option Value} {base : Heap} {x qual : PySem.Str} {params : Arguments} {body : List Stmt} {scope : Scope} {f : Addr} {fd : FuncData} {CX : CXT} {N : List PySem.Str} {k : Nat} {sp : Sp} {sf o : PySem.Str} {dv : V} {more : Arg}
theorem env0_grown {A : Around} {outer : List Env} {s : Shared} {H : Hp} {d : Addr} {u : HO} {h' : Heap} {t : Nat} (e0 : Env0 P w K mg base A outer s H) (hd : s.heap.objs.size ≤ d) (kp : ∀ b x, s.heap.get? b = some x → h'.get? b = some x) (new : ObjOk P w (upd H d u) h' d u) (hsz : s.heap.objs.size ≤ h'.objs.size) :
    Env0 P w K mg base A outer { s with heap := h', toks := t } (upd H d u) := by
  refine ⟨e0.frames, e0.mod, fun b x e => ⟨kp b x (e0.bs b x e).1, ?_⟩, Nat.le_trans e0.bsz hsz, Heap.FunFrames.of_keeps (fun b x e _ => ⟨x, kp b x e, rfl⟩) e0.funs, fun b hb => ?_, e0.hok.laid kp hd new, e0.bare⟩
  · rw [upd_ne (Nat.ne_of_lt (Nat.lt_of_lt_of_le (Heap.lt_size (e0.bs b x e).1) hd))]
    exact (e0.bs b x e).2
  · obtain ⟨_, x, hx, _⟩ := e0.funs.mem hb
    rw [upd_ne (Nat.ne_of_lt (Nat.lt_of_lt_of_le (Heap.lt_size hx) hd))]
    exact e0.frf b hb
theorem fn_kw1 (F : FunD K x qual params body scope [] [(o, dv)] f fd) (S : FnScope N [sf, o, more.arg] scope) (h1 : params.posonlyargs.map (·.arg) = []) (h2 : params.args.map (·.arg) = [sf]) (h3 : params.kwonlyargs.map (·.arg) = [o]) (h4 : params.vararg = none) (h5 : params.kwarg = some more) (hso : sf ≠ o) (hCX : CXUp CX)
    (hbody : ∀ (cdv : Value) (A : Around) (outer : List Env) (s : Shared) (H : Hp) (vs : List V) (Q : VK) (E : XK), Room k (A.deeper (envOfC qual scope s.heap.objs.size f cdv)) → sp vs H Q E →
      ∃ t, PSs (cxOf CX P w K mg base N qual scope f cdv A outer s H E) body t ∧ t { nx := fun _ H' => Q .non H', rt := Q } (start N vs) H) : FnW P w K mg base CX (k + 1) f (spW sf o dv sp) := by
  intro A outer s H u v kw kv Q E hr e0 ru rk ⟨hs1, hs2, hs3, hs4⟩
  obtain ⟨oc, od, dV, kV, doc, pm, an, cdv, ct, osl, rfl, lk, hcd, hD, hK⟩ := F.ex
  obtain rfl : dV = .none := hD.elim (fun z => z.2) fun z => absurd rfl z.1
  obtain ⟨D, rfl, hq⟩ : ∃ D : Addr, kV = .ref D ∧ ∀ q ∈ [(o, dv)], ∃ u, PySem.W.nsIn K D q.1 = some (some u) ∧ RelV q.2 u := hK.elim (fun z => nomatch z) id
  obtain ⟨du, hdu, rdu⟩ := hq (o, dv) (List.mem_singleton.mpr rfl)
  have KX : K.In s.heap := e0.mod.kin.keeps fun b o e => (e0.bs b o e).1
  have hn : H s.heap.objs.size = none := e0.hok.fresh (Nat.le_refl _)
  have hl : kv.length = kw.length := Paired.length rk
  refine run_bnd lk hcd S hr e0 (G := fun vs H2 => vs = [v, (kv.lookup o).getD dv, V.ref s.heap.objs.size] ∧ H2 = upd H s.heap.objs.size (.dK (nmK (kv.filter fun q => !decide (q.1 = o))))) (fun A' Ex Q' h => ?_) fun s2 H2 vs ⟨e1, e2⟩ hr' => ?_
  · refine bind_kw1 (dv := du) h1 h2 h3 h4 h5 hso (by rw [← kv_names rk]; exact hs1) (by rw [← kv_names rk]; exact hs2) (by omega) (PySem.W.looks_nsIn KX hdu) fun h' hd' hs' t => ?_
    have kp : ∀ b x, s.heap.get? b = some x → h'.get? b = some x := fun b x e => (hs'.2 b (Nat.ne_of_lt (Heap.lt_size e))).trans (Heap.get?_push_of_some _ e)
    have hz : (nmK (kv.filter fun q => !decide (q.1 = o))).length ≤ sizeLine := by
      unfold nmK
      rw [List.length_map, sizeLine_eq]
      have := List.length_filter_le (fun q : PySem.Str × V => !decide (q.1 = o)) kv
      omega
    have hdn : (s.heap.objs.size == sysModules) = false := beq_eq_false_iff_ne.mpr (Ne.symm (Nat.ne_of_lt (env0_big e0)))
    have new : ObjOk P w (upd H s.heap.objs.size (.dK (nmK (kv.filter fun q => !decide (q.1 = o))))) h' s.heap.objs.size (.dK (nmK (kv.filter fun q => !decide (q.1 = o)))) := dk_new hz hdn (kv_nmK (kv_filter rk fun n => !decide (n = o))) hd'
    have hsz : s.heap.objs.size ≤ h'.objs.size := Nat.le_of_lt new.lt
    have e2 := env0_grown (t := t) e0 (Nat.le_refl _) kp new hsz
    have un : Un (frs outer) [] H (upd H s.heap.objs.size (.dK (nmK (kv.filter fun q => !decide (q.1 = o))))) s.heap h' := Un.laid kp (Nat.le_refl _) hn
    refine h { s with heap := h', toks := t } _ [v, (kv.lookup o).getD dv, V.ref s.heap.objs.size] [u, (kw.lookup o).getD du, Value.ref s.heap.objs.size] e2 un rfl (fun e s' => hCX outer s H _ _ E e s' un kp rfl) (.cons ru (.cons (kv_look rk rdu o) (.cons rfl .nil))) rfl ⟨rfl, rfl⟩
  · subst e1 e2
    exact hbody cdv A outer s2 _ _ Q E hr' (hs4 _ hn)
end
section
variable {X : Cx} {CX : CXT} {k : Nat} {f C : Addr} {spw : V → List (PySem.Str × V) → Hp → VK → XK → Prop} {E : XK} {x : PySem.Str} {p pos kp : Pos} {e : Expr} {te tk : TE} {kws : List Keyword} {ks : List PySem.Str} {ta : TA}
/-- a new instance of C, then its __init__ with these names -/
def rMakeW (C : Addr) (spw : V → List (PySem.Str × V) → Hp → VK → XK → Prop) (E : XK) : List (PySem.Str × V) → Hp → VK → Prop := fun kv H Q => ∀ x dx, H x = none → H dx = none → dx ≠ x →
  spw (.ref x) kv (upd (upd H dx (.own x)) x (.ins C dx [])) (fun v H2 => v = .non ∧ Q (.ref x) H2) E
theorem run_makeW (M : Mk X.K C f) (F : FnW X.prog X.w X.K X.mg X.base CX k f spw) (hr : Room (k + 1) X.A) (hx : Passes CX X E) (pins : List (Addr × Obj)) (s : Shared) (σ : L2.St) (H : Hp) (Q : VK) (kv : List (PySem.Str × V)) (kw : List (PySem.Str × Value)) (I : Inv X pins σ H s) (r : KV kv kw) (h : rMakeW C spw E kv H Q) :
    wpAny (model X.prog X.w) X.A (call (.ref C) [] kw) (EP X pins σ Q) X.xe s := by
  have hq := h (s.heap.objs.size + 1) s.heap.objs.size (I.hok.fresh (Nat.le_succ _)) (I.hok.fresh (Nat.le_refl _)) (Nat.ne_of_lt (Nat.lt_succ_self _))
  have I2 := Inv.made (C := C) I
  refine wpAny_call (make_map (f := f) I.kIn M.makes M.init (beq_iff_eq.mp M.fn) (codeAny_mono (F _ X.stack _ _ (Value.ref (s.heap.objs.size + 1)) (V.ref (s.heap.objs.size + 1)) kw kv _ _ (hr.make C [] kw) (I2.env0.make C [] kw) rfl r hq) fun r s' hq' => ?_))
  cases r with
  | error e => exact hx pins σ _ _ e s' I2 hq'
  | ok fl =>
    cases fl with
    | ret u =>
      obtain ⟨v, H', I3, rv, ev, q3⟩ := I2.after hq'
      subst ev
      exact ⟨rv, ⟨V.ref (s.heap.objs.size + 1), H', I3, rfl, q3⟩⟩
    | next => exact False.elim hq'
    | brk => exact False.elim hq'
    | cont => exact False.elim hq'
/-- C(**e) -/
theorem pe_makeSS (M : Mk X.K C f) (F : FnW X.prog X.w X.K X.mg X.base CX k f spw) (hr : Room (k + 1) X.A) (hg : Gl X x) (hm : X.mg x = some (.ref C)) (hx : Passes CX X E) (he : PE X e te) (hdb : (x == ("__debug__" : PySem.Str)) = false := by decide) :
    PE X (.Call (.Name x p) [] [⟨none, e, kp⟩] pos) (fun σ H Q => ∀ d, H d = none → te σ (upd H d (.dK [])) fun y H1 => ∃ a kv, y = V.ref a ∧ a ≠ d ∧ Rd H1 a (.dK (nmK kv)) ∧ H1 d = some (.dK []) ∧ kv.length ≤ 1000 ∧ rMakeW C spw E kv (upd H1 d (.dK (nmK kv))) Q) :=
  pe_ss M.kp hg hm he (fun pins s σ H Q kv kw I r h => run_makeW M F hr hx pins s σ H Q kv kw I r h) hdb
theorem kv_zip : ∀ {ks : List PySem.Str} {zs : List V} {ws : List Value}, Vals zs ws → KV (ks.zip zs) (ks.zip ws)
  | [], _, _, _ => by rw [List.zip_nil_left, List.zip_nil_left]; exact .nil
  | k :: ks, _, _, .nil => .nil
  | k :: ks, _, _, .cons h t => .cons ⟨rfl, h⟩ (kv_zip t)
/-- C(k = v, ..) -/
theorem pe_makeKV (M : Mk X.K C f) (F : FnW X.prog X.w X.K X.mg X.base CX k f spw) (hr : Room (k + 1) X.A) (hg : Gl X x) (hm : X.mg x = some (.ref C)) (hx : Passes CX X E) (hkw : PK X kws ta)
    (hall : (backToKw pos (keywordEach kws X.env)).all (·.1.isSome) = true := by rfl) (hks : (backToKw pos (keywordEach kws X.env)).filterMap (·.1) = ks := by rfl) (hdb : (x == ("__debug__" : PySem.Str)) = false := by decide)
    (hpl : ((backTo pos (starEach [] X.env)).any (·.1) || (backToKw pos (keywordEach kws X.env)).any (·.1.isNone)) = false := by rfl) :
    PE X (.Call (.Name x p) [] kws pos) (fun σ H Q => ta σ H fun zs H1 => rMakeW C spw E (ks.zip zs) H1 Q) := by
  refine ⟨fun pins s σ H Q I h => ?_⟩
  refine wpAny_Call_Name_kw (ld_glob I hg hm ?_ hdb)
  refine PySem.W.callWith_KW0 (h₀ := X.base) I.ok.mod.kin M.kp hall ?_ hpl
  refine thn (hkw.run pos pins s σ H _ I h) fun ws s2 ⟨zs, H2, I2, rz, q2⟩ => ⟨I2.kIn, ?_⟩
  rw [hks]
  exact run_makeW M F hr hx pins s2 σ H2 Q (ks.zip zs) (ks.zip ws) I2 (kv_zip rz) q2
/-- C() -/
theorem pe_makeN (M : Mk X.K C f) (F : FnW X.prog X.w X.K X.mg X.base CX k f spw) (hr : Room (k + 1) X.A) (hg : Gl X x) (hm : X.mg x = some (.ref C)) (hx : Passes CX X E) (hdb : (x == ("__debug__" : PySem.Str)) = false := by decide) :
    PE X (.Call (.Name x p) [] [] pos) (fun σ H Q => rMakeW C spw E [] H Q) := by
  refine ⟨fun pins s σ H Q I h => ?_⟩
  refine wpAny_Call_Name_kw (ld_glob I hg hm ?_ hdb)
  exact PySem.W.callWith_K0 I.kIn M.kp (run_makeW M F hr hx pins s σ H Q [] [] I .nil h)
end
end R0

/-! is_less; the two __init__. -/
namespace M46
open PySem PySem.Spec PyProof.Rows L2 R0 K1

def rk (x : S) : Nat := W3.idxOf x
theorem w3_at : ∀ {x : S}, x ∈ W3 → W3[rk x]? = some x ∧ ∀ m, m < rk x → W3[m]? ≠ some x := by
  have h : ∀ x, x ∈ W3 → W3[rk x]? = some x ∧ ((List.range (rk x)).all fun m => decide (W3[m]? ≠ some x)) = true := by
    intro x hx
    have hx' : x = w0 ∨ x = w1 ∨ x = w2 := by simpa [W3] using hx
    rcases hx' with e | e | e
    · subst e; exact ⟨by decide +kernel, by decide +kernel⟩
    · subst e; exact ⟨by decide +kernel, by decide +kernel⟩
    · subst e; exact ⟨by decide +kernel, by decide +kernel⟩
  intro x hx
  refine ⟨(h x hx).1, fun m hm => ?_⟩
  have := List.all_eq_true.mp (h x hx).2 m (List.mem_range.mpr hm)
  exact of_decide_eq_true this
theorem rk_inj {x y : S} (hx : x ∈ W3) (hy : y ∈ W3) (h : rk x = rk y) : x = y := by
  have h1 := (w3_at hx).1
  have h2 := (w3_at hy).1
  rw [h, h2] at h1
  exact (Option.some.inj h1).symm
def spLess : Sp := fun vs H Q _ => ∃ x y : S, vs = [.str x, .str y] ∧ x ∈ W3 ∧ y ∈ W3 ∧ Q (.bl (decide (rk x < rk y))) H
/-- the two attributes -/
def fl (d : Addr) (r : S) : List (S × V) := [("_words", V.ref d), ("_rest", V.str r)]
theorem wr_ : ¬ (("_words" : S) = "_rest") := by decide +kernel
theorem fl_put (d : Addr) (r : S) : putF "_rest" (V.str r) (putF "_words" (V.ref d) []) = fl d r := by
  show (if ("_words" : S) = "_rest" then [(("_words" : S), V.str r)] else (("_words" : S), V.ref d) :: putF "_rest" (V.str r) []) = _
  rw [if_neg wr_]
  rfl
theorem fl_w (d : Addr) (r : S) : (fl d r).lookup ("_words" : S) = some (.ref d) := by
  rw [← fl_put, lookup_putF, if_neg wr_, lookup_putF, if_pos rfl]
theorem fl_r (d : Addr) (r : S) : (fl d r).lookup ("_rest" : S) = some (.str r) := by
  rw [← fl_put, lookup_putF, if_pos rfl]
/-- a marking at a -/
structure MkAt (C : Addr) (H : Hp) (a : Addr) (ws : List (S × S)) (r : S) : Prop where
  ex : ∃ dx d, H a = some (.ins C dx (fl d r)) ∧ H d = some (.dK (wd ws))
theorem MkAt.same {C : Addr} {H H' : Hp} {a : Addr} {ws : List (S × S)} {r : S} (m : MkAt C H a ws r) (s : Same H H') : MkAt C H' a ws r := by
  obtain ⟨dx, d, h1, h2⟩ := m.ex
  exact ⟨dx, d, s _ _ h1, s _ _ h2⟩
abbrev Le (a b : S) : Prop := a.cps.toList ≤ b.cps.toList
/-- the kept words of W, and the word of the others -/
structure Canon (W ws : List (S × S)) (r : S) : Prop where
  r : r = rest W
  ys : ∃ ys : List S, ys.Pairwise Le ∧ ys.Nodup ∧ (∀ k ∈ ys, nm k = true) ∧ ys.length ≤ 45 ∧ (∀ k, k ∉ ys → gw W (rest W) k = rest W) ∧ ws = kept ys (gw W (rest W)) (rest W)
theorem canon_eq {W W' ws ws' : List (S × S)} {r r' : S} (h : Canon W ws r) (h' : Canon W' ws' r') (er : rest W = rest W') (e : ∀ k, gw W (rest W) k = gw W' (rest W) k) : ws = ws' ∧ r = r' := by
  obtain ⟨rfl, ys, s1, n1, _, _, o1, rfl⟩ := h
  obtain ⟨rfl, ys', s2, n2, _, _, o2, rfl⟩ := h'
  rw [← er] at o2 ⊢
  exact ⟨kept_ext s1 s2 n1 n2 e o1 o2, rfl⟩
theorem canon_gw {W ws : List (S × S)} {r : S} (h : Canon W ws r) (k : S) : gw ws r k = gw W (rest W) k := by
  obtain ⟨rfl, ys, s1, n1, _, _, o1, rfl⟩ := h
  exact gw_kept (o1 k)
theorem canon_of {W : List (S × S)} (ok : Wok W) {ys : List S} (p : ys.Perm (W.map (·.1))) (s : sortedS ys = true) : Canon W (kept ys (gw W (rest W)) (rest W)) (rest W) :=
  ⟨rfl, ys, sorted_le s, p.nodup_iff.mpr ok.nd, fun k hk => ok.nm k (p.mem_iff.mp hk), by rw [p.length_eq, List.length_map]; have := ok.len; omega, fun k hk => gw_not fun z => hk (p.mem_iff.mpr z), rfl⟩
structure ClsF (K : PySem.W.Frag) (C : Addr) : Prop where
  cl : Cls K C
  nW : NoAttr K C "_words"
  nR : NoAttr K C "_rest"
/-- a new instance at x gets its attributes -/
def spInit (C : Addr) : Sp := fun vs H Q _ => ∃ (x dx d : Addr) (ks : List (S × S)) (o : S), vs = [.ref x, .str o, .ref d] ∧ H x = some (.ins C dx []) ∧ H d = some (.dK (wd ks)) ∧ Wok (putS ks oth o) ∧
  ∀ (H' : Hp) (ws : List (S × S)) (r : S), (∀ b u, b ≠ x → H b = some u → H' b = some u) → MkAt C H' x ws r → Canon (putS ks oth o) ws r → Q .non H'
def spTaken (C : Addr) : Sp := fun vs H Q _ => ∃ (x dx d : Addr) (ks : List (S × S)), vs = [.ref x, .ref d] ∧ H x = some (.ins C dx []) ∧ H d = some (.dK (wd ks)) ∧ Wok ks ∧
  ∀ (H' : Hp) (ws : List (S × S)) (r : S), (∀ b u, b ≠ x → H b = some u → H' b = some u) → MkAt C H' x ws r → Canon ks ws r → Q .non H'
section
variable {P : Program} {w : World} {K : PySem.W.Frag} {mg : PySem.Str → Option Value} {base : Heap}
theorem scLess : FnScope ["word", "other"] ["word", "other"] (defScope sLess) := ⟨rfl, rfl, rfl, by decide +kernel, rfl, by decide +kernel, by decide +kernel⟩
theorem ok_less {f : Addr} {fd : FuncData} (F : Fun K "is_less" "is_less" sLess f fd) (C : Cst K mg) : FnOk P w K mg base CX0 1 f fd ["word", "other"] spLess := by
  refine F.ok scLess (fun vs H Q E h => ?_) (fun cdv A outer s H vs Q E hr h => ?_)
  · obtain ⟨x, y, rfl, _⟩ := h
    rfl
  · obtain ⟨x, y, rfl, hx, hy, q⟩ := h
    obtain ⟨aW, mW, ⟨oW, k1, k2, k3⟩, hW⟩ := C.ws
    have h1 := w3_at hx
    have h2 := w3_at hy
    refine ⟨_, (pss_one (ps_ret (pe_cmpR op_lt (pe_bm PySem.F.plainAttrs_tuple PySem.F.slot_tuple_index PySem.F.type_tuple_index mt_tup_index (pe_glob (v := .ref aW) rfl mW rfl) (pa_cons (pv 0) pa_nil)) (pe_bm PySem.F.plainAttrs_tuple PySem.F.slot_tuple_index PySem.F.type_tuple_index mt_tup_index (pe_glob (v := .ref aW) rfl mW rfl) (pa_cons (pv 1) pa_nil)) (nomark _)))), ?_⟩
    refine ⟨.inr (.inl ⟨rfl, oW, k1, k2, k3⟩), _, rfl, aW, W3, x, rk x, rfl, rfl, hW _, h1.1, h1.2, .inr (.inl ⟨rfl, oW, k1, k2, k3⟩), _, rfl, aW, W3, y, rk y, rfl, rfl, hW _, h2.1, h2.2, _, _, rfl, rfl, ?_⟩
    have e : decide (((rk x : Nat) : Int) < ((rk y : Nat) : Int)) = decide (rk x < rk y) := by
      rw [Bool.eq_iff_iff, decide_eq_true_eq, decide_eq_true_eq]
      omega
    show Q (.bl (decide (((rk x : Nat) : Int) < ((rk y : Nat) : Int)))) H
    rw [e]
    exact q
theorem mk_done {C : Addr} {H G : Hp} {x dx q t : Addr} {ws : List (S × S)} {r : S} (hx : H x = some (.ins C dx [])) (sG : Same H G) (hq : H q = none) (gq : G q = some (.dK (wd ws))) :
    MkAt C (upd (upd G x (.ins C dx (putF "_words" (V.ref q) []))) x (.ins C dx (putF "_rest" (V.str r) (putF "_words" (V.ref q) [])))) x ws r ∧ ∀ b u, b ≠ x → H b = some u → (upd (upd G x (.ins C dx (putF "_words" (V.ref q) []))) x (.ins C dx (putF "_rest" (V.str r) (putF "_words" (V.ref q) [])))) b = some u := by
  have hqx : x ≠ q := ne_of_none hx hq
  rw [upd_upd, fl_put]
  exact ⟨⟨dx, q, upd_same, by rw [upd_ne hqx.symm]; exact gq⟩, fun b u hb e => by rw [upd_ne hb]; exact sG _ _ e⟩
theorem scTaken : FnScope ["self", "words"] ["self", "words"] (defScope sTaken) := ⟨rfl, rfl, rfl, by decide +kernel, rfl, by decide +kernel, by decide +kernel⟩
theorem ok_taken {f fK : Addr} {fd fdK : FuncData} {C : Addr} (F : Fun K "__init__" "TakenMarking.__init__" sTaken f fd) (cf : ClsF K C) (FK : Fun K "_kept_words" "_kept_words" sKept fK fdK) (bK : Binds K fdK ["words"] []) (mK : mg "_kept_words" = some (.ref fK)) (GK : FnOk P w K mg base CX0 3 fK fdK ["words"] spKept) : FnOk P w K mg base CX0 4 f fd ["self", "words"] (spTaken C) := by
  refine F.ok scTaken (fun vs H Q E h => ?_) (fun cdv A outer s H vs Q E hr h => ?_)
  · obtain ⟨x, dx, d, ks, rfl, _⟩ := h
    rfl
  · obtain ⟨x, dx, d, ks, rfl, hx, hd, ok, q⟩ := h
    refine ⟨_, (pss_one (ps_asg (pe_call GK hr (by rfl) mK FK.kp bK .nil pass0 (pa_cons (pv 1) pa_nil)) (pg_tup (by rfl) (pgs_cons (pg_att (pv 0)) (pgs_cons (pg_att (pv 0)) pgs_nil))))), ?_⟩
    refine ⟨_, rfl, d, ks, rfl, hd, ok, fun G qd t ys sG nq py sy gq gt => ?_⟩
    have gx := sG _ _ hx
    refine ⟨t, _, rfl, .inl (.inl gt), rfl, _, _, rfl, _, rfl, x, C, dx, [], rfl, gx, cf.cl, cf.nW, Nat.zero_lt_succ _, _, _, rfl, _, rfl, x, C, dx, _, rfl, upd_same, cf.cl, cf.nR, (by show 1 < 1000; decide), rfl, ?_⟩
    have m := mk_done (r := rest ks) (t := t) hx sG nq gq
    exact q _ _ _ m.2 m.1 (canon_of ok py sy)
theorem wd_nmK (ws : List (S × S)) : nmK (ws.map fun x => (x.1, V.str x.2)) = wd ws := by
  unfold nmK wd
  rw [List.map_map]
  rfl
theorem scInit : FnScope ["self", "other", "kinds"] ["self", "other", "kinds"] (defScope sInit) := ⟨rfl, rfl, rfl, by decide +kernel, rfl, by decide +kernel, by decide +kernel⟩
theorem len_put_ge {k v : S} {ws : List (S × S)} : ws.length ≤ (putS ws k v).length := by
  have h := congrArg List.length (keys_put (k := k) (v := v) (ws := ws))
  rw [List.length_map] at h
  rw [h]
  split
  · rw [List.length_map]; exact Nat.le_refl _
  · rw [List.length_append, List.length_map]; omega
theorem nodup_of_put {k v : S} {ws : List (S × S)} (h : ((putS ws k v).map (·.1)).Nodup) : (ws.map (·.1)).Nodup := by
  rw [keys_put] at h
  split at h
  · exact h
  · exact (List.nodup_append.mp h).1
theorem merge_put {ks : List (S × S)} {k v : S} (h : (ks.map (·.1)).Nodup) : mergeK (mergeK [] (wd ks)) (mergeK [] (wd [(k, v)])) = wd (putS ks k v) := by
  rw [merge_nil h, merge_nil (by simp)]
  exact put_wd
def kwI : Arg := match (defArgs sInit).kwarg with
  | some a => a
  | none => ⟨"", none, ⟨0, 0, 0, 0⟩⟩
/-- __init__, by its keywords -/
theorem ok_init {f fK C : Addr} {fd fdK : FuncData} (F : FunD K "__init__" "Marking.__init__" (defArgs sInit) (defBody sInit) (defScope sInit) [] [("other", V.str w0)] f fd) (cf : ClsF K C) (FK : Fun K "_kept_words" "_kept_words" sKept fK fdK) (bK : Binds K fdK ["words"] []) (mK : mg "_kept_words" = some (.ref fK)) (GK : FnOk P w K mg base CX0 3 fK fdK ["words"] spKept) : FnW P w K mg base CX0 4 f (spW "self" "other" (V.str w0) (spInit C)) := by
  refine fn_kw1 (more := kwI) F (show FnScope ["self", "other", "kinds"] ["self", "other", kwI.arg] (defScope sInit) from scInit) rfl rfl rfl rfl rfl (by decide +kernel) StX.cxUp_none (fun cdv A outer s H vs Q E hr h => ?_)
  obtain ⟨x, dx, d, ks, o, rfl, hx, hd, ok, q⟩ := h
  refine ⟨_, (pss_one (ps_asg (pe_call GK hr (by rfl) mK FK.kp bK .nil pass0 (pa_cons (pe_dd (pv 2) (pps_cons pe_str (pv 1) pps_nil) (by rfl) (by rfl) (fun z => by cases z) (by decide)) pa_nil)) (pg_tup (by rfl) (pgs_cons (pg_att (pv 0)) (pgs_cons (pg_att (pv 0)) pgs_nil))))), ?_⟩
  have nks := nodup_of_put ok.nd
  have lks : ks.length ≤ 40 := Nat.le_trans len_put_ge ok.len
  refine fun p hp => ⟨_, rfl, d, wd ks, rfl, .inl (by rw [upd_ne (ne_of_none hd hp)]; exact hd), ne_of_none hd hp, upd_same, by rw [wd_len]; omega, fun e he => ?_⟩
  have hpe : p ≠ e := ne_of_none upd_same he
  have he0 : H e = none := by rw [upd_upd, upd_ne hpe.symm] at he; exact he
  refine ⟨_, rfl, by rw [upd_ne hpe, upd_same], upd_same, wd [(oth, o)], rfl, (by rw [wd_len]; exact Nat.succ_le_succ (Nat.zero_le _)), ?_⟩
  rw [merge_put nks]
  have s3 : Same H (upd (upd (upd (upd (upd H p (.dK [])) p (.dK (mergeK [] (wd ks)))) e (.dK [])) e (.dK (mergeK [] (wd [(oth, o)])))) p (.dK (wd (putS ks oth o)))) := fun b u eb => by
    have b1 : b ≠ p := ne_of_none eb hp
    have b2 : b ≠ e := ne_of_none eb he0
    rw [upd_ne b1, upd_ne b2, upd_ne b2, upd_ne b1, upd_ne b1]
    exact eb
  refine ⟨p, putS ks oth o, rfl, upd_same, ok, fun G qd t ys sG nq py sy gq gt => ?_⟩
  have gx := sG _ _ (s3 _ _ hx)
  refine ⟨t, _, rfl, .inl (.inl gt), rfl, _, _, rfl, _, rfl, x, C, dx, [], rfl, gx, cf.cl, cf.nW, Nat.zero_lt_succ _, _, _, rfl, _, rfl, x, C, dx, _, rfl, upd_same, cf.cl, cf.nR, (by show 1 < 1000; decide), rfl, ?_⟩
  have nq0 : H qd = none := by
    cases z : H qd with
    | none => rfl
    | some u => rw [s3 _ _ z] at nq; cases nq
  have m := mk_done (r := rest (putS ks oth o)) (t := t) hx (s3.trans sG) nq0 gq
  exact q _ _ _ m.2 m.1 (canon_of ok py sy)
end
end M46

/-! What an own class says of o[i], len(o), its truth, str(o), o == p, o != p. -/
namespace R0
open PySem PySem.Spec PyProof.Rows L2

section
variable {X : Cx} {CX : CXT} {n : Nat} {C f : Addr} {fd : FuncData} {ps : List PySem.Str} {sp : Sp} {E : XK}
theorem vr (a : Addr) : RelV (V.ref a) (Value.ref a) := rfl
/-- a def called somewhere below the body that runs -/
theorem run_below {A : Around} {pins : List (Addr × Obj)} {σ : L2.St} {H : Hp} {s : Shared} {Q : VK} {us : List Value} {vs : List V} (sb : Sub X n A) (F : FnOk X.prog X.w X.K X.mg X.base CX n f fd ps sp) (hb : Binds X.K fd ps []) (hx : Passes CX X E) (I : Inv X pins σ H s) (r : Vals vs us) (h : sp vs H Q E) :
    wpAny (model X.prog X.w) A (call (.ref f) us) (EP X pins σ Q) X.xe s := by
  have e0 : Env0 X.prog X.w X.K X.mg X.base A X.stack s H := by
    have e := I.env0
    exact ⟨by rw [sb.fr]; exact e.frames, e.mod, e.bs, e.bsz, e.funs, e.frf, e.hok, e.bare⟩
  have hl : (us ++ []).length = ps.length := by rw [List.append_nil, ← r.length, F.len _ _ _ _ h]
  refine wpAny_call (codeAny_mono (F.run A X.stack s H ⟨us, []⟩ us vs Q E sb.room e0 (by have z := hb s us I.kIn hl; rw [List.append_nil] at z; exact z) r h) fun r s' hq => ?_)
  cases r with
  | error e => exact hx pins σ H s e s' I hq
  | ok fl =>
    cases fl with
    | ret w => exact I.after hq
    | next => exact False.elim hq
    | brk => exact False.elim hq
    | cont => exact False.elim hq
theorem ins_inst {pins : List (Addr × Obj)} {σ : L2.St} {H : Hp} {s : Shared} {a dx : Addr} {fs : List (PySem.Str × V)} (I : Inv X pins σ H s) (h : H a = some (.ins C dx fs)) : ∃ od, PySem.W.InstAt s.heap a (PySem.W.instObj C dx) C (some od) := by
  obtain ⟨mA, J, _⟩ := ins_get I.hok h
  obtain ⟨od, J, _⟩ := J.look
  exact ⟨od, J⟩
/-- what is said of a special method: its def, how it binds, what leaves it -/
structure OwnM (X : Cx) (CX : CXT) (n : Nat) (C : Addr) (name : PySem.Str) (f : Addr) (fd : FuncData) (ps : List PySem.Str) (sp : Sp) (E : XK) : Prop where
  F : FnOk X.prog X.w X.K X.mg X.base CX n f fd ps sp
  b : Binds X.K fd ps []
  x : Passes CX X E
  s : PySem.W.findIn X.K (.ref C) name = some (some (.ref f))
  fn : PySem.W.isFn X.K (.ref f) = true
/-- o[i] -/
theorem ix_own (m : OwnM X CX n C "__getitem__" f fd ps sp E) (hf : PySem.W.fnIn X.K f = true) (hr : Room (n + 1) X.A) (hsl : ∀ (slice : Expr) (o i : Value), subscripted slice false o i = operate [o, i] (getItem o i) → subscripted slice true o i = runValue (.builtin "lifetime.subscript" ⟨[o, i], []⟩)) :
    IxR X (fun x y H Q => ∃ a dx fs, x = .ref a ∧ H a = some (.ins C dx fs) ∧ sp [.ref a, y] H Q E) := by
  intro value slice pins s σ H x y v u Q I rx ry h hs
  obtain ⟨a, dx, fs, rfl, ha, q⟩ := h
  obtain rfl : v = Value.ref a := rx
  obtain ⟨od, J⟩ := ins_inst I ha
  obtain ⟨mm, hF⟩ := I.fr
  exact PySem.W.sub_K hF I.ok.mod.kin J m.s hf m.fn (run_below ⟨hr.in1, rfl⟩ m.F m.b m.x I (.cons (vr a) (.cons ry .nil)) q) (hsl _ _ _ hs)
/-- len(o) -/
theorem call_lenO (m : OwnM X CX n C "__len__" f fd ps sp E) (hr : Room (n + 1) X.A) : CallR X (.builtin "len") (fun xs H Q => ∃ a dx fs, xs = [.ref a] ∧ H a = some (.ins C dx fs) ∧ sp [.ref a] H (fun v H' => ∃ i : Int, v = .int i ∧ 0 ≤ i ∧ i < 2 ^ 63 ∧ Q (.int i) H') E) := by
  intro pins s σ H xs us Q I r h
  obtain ⟨a, dx, fs, rfl, ha, q⟩ := h
  obtain rfl := Vals.ref1 r
  obtain ⟨od, J⟩ := ins_inst I ha
  obtain ⟨mm, hF⟩ := I.fr
  refine PySem.W.len_K hF I.ok.mod.kin J m.s m.fn (thn (run_below ⟨hr.in1, rfl⟩ m.F m.b m.x I (.cons (vr a) .nil) q) fun w s' ⟨v, H', I', rv, i, e, h0, h1, q'⟩ => ?_)
  subst e
  obtain ⟨t, rfl⟩ := rv
  exact ⟨⟨h0, h1⟩, ⟨.int i, H', I'.tok _, ⟨_, rfl⟩, q'⟩⟩
/-- str(o) -/
theorem call_strO (m : OwnM X CX n C "__str__" f fd ps sp E) (hr : Room (n + 2) X.A) : CallR X (.type "str") (fun xs H Q => ∃ a dx fs, xs = [.ref a] ∧ H a = some (.ins C dx fs) ∧ sp [.ref a] H (fun v H' => ∃ y : PySem.Str, v = .str y ∧ Q (.str y) H') E) := by
  intro pins s σ H xs us Q I r h
  obtain ⟨a, dx, fs, rfl, ha, q⟩ := h
  obtain rfl := Vals.ref1 r
  obtain ⟨od, J⟩ := ins_inst I ha
  refine PySem.W.kso_call (by have := hr.in1.in1.un; omega) I.kIn J m.s m.fn (thn (run_below ⟨hr.in1.in1, rfl⟩ m.F m.b m.x I (.cons (vr a) .nil) q) fun w s' ⟨v, H', I', rv, y, e, q'⟩ => ?_)
  subst e
  obtain ⟨t, rfl⟩ := rv
  exact ⟨.str y, H', I', ⟨_, rfl⟩, q'⟩
/-- the truth of o by its len -/
theorem truthy_len {A : Around} {pins : List (Addr × Obj)} {σ : L2.St} {H : Hp} {s : Shared} {Q : Bool → Hp → Prop} {a dx : Addr} {fs : List (PySem.Str × V)} (sb : Sub X (n + 1) A) (m : OwnM X CX n C "__len__" f fd ps sp E) (hnb : PySem.W.findIn X.K (.ref C) "__bool__" = some none) (I : Inv X pins σ H s) (ha : H a = some (.ins C dx fs))
    (q : sp [.ref a] H (fun v H' => ∃ i : Int, v = .int i ∧ 0 ≤ i ∧ i < 2 ^ 63 ∧ Q (i != 0) H') E) : wpAny (model X.prog X.w) A (truthy (.ref a)) (TP X pins σ Q) X.xe s := by
  obtain ⟨od, J⟩ := ins_inst I ha
  obtain ⟨mm, hF⟩ := I.fr
  unfold truthy
  refine wpAny_bind (m := callSpecial? (.ref a) (Str.ofString "__bool__")) (wpAny_bind (wpAny_bind (J.type.here ((PySem.W.looks_findIn I.kIn hnb).here (wpAny_pure ?_)))))
  refine wpAny_bind (wpAny_bind (J.type.here ((PySem.W.looks_findIn I.kIn m.s).here ?_)))
  rw [if_neg (by simp)]
  refine wpAny_bind (wpAny_runValue (codeAny_builtin entry_len ?_))
  rw [Around.under_plainId plain_len _]
  unfold Builtin.«len»
  refine wpAny_bind (m := oneArg "len" _) (wpAny_pure ?_)
  refine wpAny_bind (m := callSpecial? (.ref a) (Str.ofString "__len__")) (PySem.W.special_fn I.kIn J m.s (beq_iff_eq.mp m.fn) (thn (run_below sb.in1 m.F m.b m.x I (.cons (vr a) .nil) q) fun w s' ⟨v, H', I', rv, i, e, h0, h1, q'⟩ => ?_))
  subst e
  obtain ⟨t, rfl⟩ := rv
  refine wpAny_bind (wpAny_holding (wpAny_pure ?_))
  refine wpAny_bind (wpAny_letGo ?_)
  show wpAny _ _ (if i < 0 then _ else _) _ _ _
  rw [if_neg (by omega)]
  show wpAny _ _ (if i ≥ 2 ^ 63 then _ else _) _ _ _
  rw [if_neg (by omega)]
  exact wpAny_bind (wpAny_mkInt (wpAny_pure (wpAny_pure ⟨H', I'.tok _, q'⟩)))
/-- o as a test -/
theorem tru_own (m : OwnM X CX n C "__len__" f fd ps sp E) (hnb : PySem.W.findIn X.K (.ref C) "__bool__" = some none) (hr : Room (n + 1) X.A) :
    TruR X (fun x H Q => ∃ a dx fs, x = .ref a ∧ H a = some (.ins C dx fs) ∧ sp [.ref a] H (fun v H' => ∃ i : Int, v = .int i ∧ 0 ≤ i ∧ i < 2 ^ 63 ∧ Q (i != 0) H') E) := by
  intro pins s σ H x v Q I rx h
  obtain ⟨a, dx, fs, rfl, ha, q⟩ := h
  obtain rfl : v = Value.ref a := rx
  exact truthy_len ⟨hr, rfl⟩ m hnb I ha q
/-- bool(o) -/
theorem call_boolO (m : OwnM X CX n C "__len__" f fd ps sp E) (hnb : PySem.W.findIn X.K (.ref C) "__bool__" = some none) (hr : Room (n + 3) X.A) :
    CallR X (.type "bool") (fun xs H Q => ∃ a dx fs, xs = [.ref a] ∧ H a = some (.ins C dx fs) ∧ sp [.ref a] H (fun v H' => ∃ i : Int, v = .int i ∧ 0 ≤ i ∧ i < 2 ^ 63 ∧ Q (.bl (i != 0)) H') E) := by
  intro pins s σ H xs us Q I r h
  obtain ⟨a, dx, fs, rfl, ha, q⟩ := h
  obtain rfl := Vals.ref1 r
  refine callType_codes (T := "bool") (Bi := Builtin.«object.__init__») (Q₁ := fun r s₁ => ∃ b, r = .bool b ∧ EP X pins σ Q (.bool b) s₁) F.called_bool (F.typeCall_bool_1 _) PySem.F.entry_object_init ?_ ?_
  · refine codeAny_of_tree (wpAny_bind (wpAny_of_eq (F.newCall_bool_1 _) (wpAny_pure ⟨plainId_quiet (by decide +kernel) _, codeAny_builtin F.entry_bool_new ?_⟩)))
    rw [Around.under_plainId (by decide +kernel) _]
    unfold Builtin.«bool.__new__»
    refine wpAny_bind (wpAny_of_eq (show isType (.type "bool") = pure true from by kernel_rfl) ?_)
    rw [if_neg (by simp)]
    refine wpAny_bind (wpAny_of_eq F.conv_sub_bool ?_)
    rw [if_neg (by simp)]
    refine wpAny_bind (wpAny_pure ?_)
    refine wpAny_bind (wpAny_mono (truthy_len (A := X.A.in1.in1) ⟨hr.in1.in1, rfl⟩ m hnb I ha q) (fun b s' ⟨H', I', q'⟩ => wpAny_pure ⟨b, rfl, .bl b, H', I', rfl, q'⟩) fun _ _ z => z)
  · rintro obj s₁ ⟨b, rfl, hq⟩
    exact ⟨PySem.typeIs_bool _ _, PySem.F.args_object_init_2 _ _, object_init_meets F.called_bool.init.lookup F.called_bool.made (by decide) X.prog X.w X.A.in1 _ s₁ ⟨PySem.typeIs_bool _ _, rfl, hq⟩⟩
end
section
variable {prog : Program} {w : World} {A : Around} {E : Value → Shared → Prop} {s : Shared} {K : PySem.W.Frag} {x C f : Addr} {ox : Obj} {od : Option Obj} {b tb : Value}
theorem slot_check {M : Model} {id n : String} {rest : List Value} {Q : Unit → Shared → Prop} (X : K.In s.heap) (J : PySem.W.InstAt s.heap x ox C od) (hk : builtinKind id = some .slot) (hs : splitId id = some ("object", n)) (ha : argsOk id ⟨.ref x :: rest, []⟩) (hm : PySem.W.subIn K (.ref C) (.type "object") = some true) (q : Q () s) :
    wpAny M A (checkBuiltinCall id ⟨.ref x :: rest, []⟩) Q E s := by
  simp only [checkBuiltinCall, hk, hs]
  have hi : wpAny M A (isInstance (.ref x) (.type "object")) (fun r s' => r = true ∧ s' = s) E s := by
    unfold isInstance
    exact wpAny_bind (J.type.here ((PySem.W.looks_subIn X hm).here ⟨rfl, rfl⟩))
  refine wpAny_bind (thn hi fun r s' ⟨e1, e2⟩ => ?_)
  subst e1 e2
  rw [if_neg (by simp)]
  cases hsig : Manifest.signature? id with
  | none => exact wpAny_pure q
  | some sig =>
    simp only [argsOk, hsig] at ha
    have h2 : Bind.checkArgs id sig ⟨.ref x :: rest, []⟩ = pure () := ha
    show wpAny M A (Bind.checkArgs id sig ⟨.ref x :: rest, []⟩) Q E s'
    rw [h2]
    exact wpAny_pure q
theorem bind_ne (self : Value) : bindSpecial (.builtin "object.__ne__") self = pure (.builtin "object.__ne__", [self]) := by kernel_rfl
theorem bound_B {M : Model} {name : PySem.Str} {id : String} {args : List Value} {Q : Option Value → Shared → Prop} (X : K.In s.heap) (J : PySem.W.InstAt s.heap x ox C od) (hs : PySem.W.findIn K (.ref C) name = some (some (.builtin id))) (hb : ∀ self, bindSpecial (.builtin id) self = pure (.builtin id, [self]))
    (h : wpAny M A (call (.builtin id) (.ref x :: args)) (fun v => Q (some v)) E s) : wpAny M A (callSpecialIfBound? (.ref x) name args) Q E s := by
  simp only [callSpecialIfBound?, bindSpecialIfBound?]
  refine wpAny_holding (wpAny_bind (wpAny_bind (wpAny_bind (J.type.here ((PySem.W.looks_findIn X hs).here ?_)))))
  refine wpAny_bind (wpAny_askSetting (wpAny_ite ?_))
  have fin : wpAny M A (call (.builtin id) ([.ref x] ++ args) >>= fun v => pure (some v)) Q E s := wpAny_bind (thn h fun v s' z => wpAny_pure z)
  split
  · exact wpAny_bind ((PySem.W.Looks.of_pure (hb _)).here (wpAny_pure (by exact fin)))
  · exact wpAny_tryCatch (wpAny_bind ((PySem.W.Looks.of_pure (hb _)).here (wpAny_pure (by exact fin))))
/-- o != p by the own == -/
theorem ne_own {Q : Value → Shared → Prop} (hu : A.units + 10 < cLine) (X : K.In s.heap) (J : PySem.W.InstAt s.heap x ox C od) (hb : PySem.W.Looks (model prog w) s.heap (typeOf b) tb) (hn : PySem.W.notFirst K C tb = true) (hne : PySem.W.findIn K (.ref C) "__ne__" = some (some (.builtin "object.__ne__")))
    (hs : PySem.W.findIn K (.ref C) "__eq__" = some (some (.ref f))) (hf : PySem.W.isFn K (.ref f) = true) (hm : PySem.W.subIn K (.ref C) (.type "object") = some true)
    (h : wpAny (model prog w) A.in1 (call (.ref f) [.ref x, b]) (fun v s' => ∃ c, v = .bool c ∧ Q (.bool (!c)) s') E s) : wpAny (model prog w) A (richCompare .NotEq (.ref x) b) Q E s := by
  have body : wpAny (model prog w) A.in1 (Builtin.«object.__ne__» ⟨[.ref x, b], []⟩) (fun fin s' => ∃ c, fin = .done (.ret (.bool (!c))) ∧ Q (.bool (!c)) s') E s := by
    unfold Builtin.«object.__ne__»
    refine wpAny_bind (wpAny_of_eq (show slotArgs "__ne__" 1 ⟨[.ref x, b], []⟩ = pure (.ref x, [b]) from by kernel_rfl) ?_)
    dsimp only
    refine wpAny_bind (wpAny_cRoomFor (by show A.units + 1 < cLine; omega) ?_)
    refine wpAny_bind (PySem.W.ifBound_K X J hs hf (thn h fun v s' ⟨c, e, q⟩ => ?_))
    subst e
    exact wpAny_bind (wpAny_truthy_bool (wpAny_pure ⟨c, rfl, q⟩))
  have one : wpAny (model prog w) A (tryCompare (.ref x) "__ne__" b) (fun r s' => ∃ c, r = some (.bool (!c)) ∧ Q (.bool (!c)) s') E s := by
    unfold tryCompare
    refine wpAny_bind (bound_B X J hne bind_ne (wpAny_call (codeAny_call_builtin (by decide +kernel) F.cmpEntry_ne (slot_check X J F.cmpKind_ne F.cmpSplit_ne (F.cmpArgs_ne _ _) hm (wpAny_mono body (fun fin s' ⟨c, e, q⟩ => ?_) fun _ _ z => z)))))
    subst e
    exact wpAny_pure ⟨c, rfl, q⟩
  unfold richCompare
  simp only [oneThing_ref]
  refine wpAny_holding (wpAny_bind (wpAny_cRoomFor (by omega) ?_))
  refine wpAny_bind (J.type.here (wpAny_bind (hb.here ?_)))
  split
  · rename_i q
    have e : PySem.W.subIn K tb (.ref C) = some false := by
      rcases Bool.or_eq_true_iff.mp hn with e | e
      · rw [beq_iff_eq.mp e] at q; simp at q
      · exact beq_iff_eq.mp e
    refine wpAny_bind ((PySem.W.looks_subIn X e).here ?_)
    rw [if_neg Bool.false_ne_true]
    refine wpAny_bind (thn one fun r s' ⟨c, e, q⟩ => ?_)
    subst e
    exact wpAny_pure q
  · refine wpAny_bind (wpAny_pure ?_)
    rw [if_neg Bool.false_ne_true]
    refine wpAny_bind (thn one fun r s' ⟨c, e, q⟩ => ?_)
    subst e
    exact wpAny_pure q
end
section
variable {X : Cx} {CX : CXT} {n : Nat} {C f : Addr} {fd : FuncData} {ps : List PySem.Str} {sp : Sp} {E : XK}
/-- what == by an own class reads -/
def rEqO (K : PySem.W.Frag) (C : Addr) (sp : Sp) (E : XK) (g : Bool → Bool) : R2 := fun x y H Q => ∃ a dx fs tb, x = .ref a ∧ H a = some (.ins C dx fs) ∧ TyX K H y tb ∧ PySem.W.notFirst K C tb = true ∧ sp [.ref a, y] H (fun v H' => ∃ c, v = .bl c ∧ Q (.bl (g c)) H') E
theorem op_eqO (m : OwnM X CX n C "__eq__" f fd ps sp E) (hr : Room n X.A) : OpR X (compareOp .Eq) (rEqO X.K C sp E id) := by
  intro pins s σ H x y v u Q I rx ry h
  obtain ⟨a, dx, fs, tb, rfl, ha, ty, hn, q⟩ := h
  obtain rfl : v = Value.ref a := rx
  obtain ⟨od, J⟩ := ins_inst I ha
  obtain ⟨mm, hF⟩ := I.fr
  obtain ⟨P, Z, p, _⟩ := kit_of I ry ty
  show wpAny _ _ (richCompare .Eq (.ref a) u) _ _ _
  refine PySem.W.cmp_K (op := .Eq) (tb := tb) hr.units0 hF I.ok.mod.kin J (Z.ty _ _ I.kIn p) hn m.s m.fn (thn (run_below ⟨hr, rfl⟩ m.F m.b m.x I (.cons (vr a) (.cons ry .nil)) q) fun w s' ⟨z, H', I', rz, c, e, q'⟩ => ?_)
  subst e
  obtain rfl : w = Value.bool c := rz
  exact ⟨.bl c, H', I', rfl, q'⟩
theorem op_neO (m : OwnM X CX n C "__eq__" f fd ps sp E) (hne : PySem.W.findIn X.K (.ref C) "__ne__" = some (some (.builtin "object.__ne__"))) (hm : PySem.W.subIn X.K (.ref C) (.type "object") = some true) (hr : Room (n + 1) X.A) : OpR X (compareOp .NotEq) (rEqO X.K C sp E not) := by
  intro pins s σ H x y v u Q I rx ry h
  obtain ⟨a, dx, fs, tb, rfl, ha, ty, hn, q⟩ := h
  obtain rfl : v = Value.ref a := rx
  obtain ⟨od, J⟩ := ins_inst I ha
  obtain ⟨P, Z, p, _⟩ := kit_of I ry ty
  show wpAny _ _ (richCompare .NotEq (.ref a) u) _ _ _
  refine ne_own (tb := tb) (by have := hr.un; omega) I.kIn J (Z.ty _ _ I.kIn p) hn hne m.s m.fn hm (thn (run_below ⟨hr.in1, rfl⟩ m.F m.b m.x I (.cons (vr a) (.cons ry .nil)) q) fun w s' ⟨z, H', I', rz, c, e, q'⟩ => ?_)
  subst e
  obtain rfl : w = Value.bool c := rz
  exact ⟨c, rfl, .bl (!c), H', I', rfl, q'⟩
end
end R0

/-! iter(d) as a value, and how it is forgotten. -/
namespace R0
open PySem PySem.Spec PyProof.Rows L2

/-- a key iterator at the first key -/
def KItO (d it n ep : Nat) : HO := .ext fun h => h.IsKeyIter it d 0 n ep
theorem kit_ok {P : Program} {w : World} {H : Hp} {h : Heap} {d it n ep : Nat} (e : h.IsKeyIter it d 0 n ep) : ObjOk P w H h it (KItO d it n ep) := by
  obtain ⟨o, e1, e2, e3⟩ := e
  exact ⟨⟨o, e1, e2, e3⟩, ⟨o, e1⟩, fun h1 h2 ⟨u, f1, f2, f3⟩ k => ⟨u, k u f1, f2, f3⟩⟩
section
variable {X : Cx} {pins : List (Addr × Obj)} {σ : L2.St} {H : Hp} {s : Shared}
theorem kit_get {d it n ep : Nat} (I : Inv X pins σ H s) (h : H it = some (KItO d it n ep)) : s.heap.IsKeyIter it d 0 n ep := (I.hok it _ h).1
/-- iter(d), d a locked dict -/
def rIterD : List V → Hp → VK → Prop := fun xs H Q => ∃ d od kvs, xs = [.ref d] ∧ H d = some (.frz od (.dK kvs)) ∧ ∀ it es ep, H it = none → od.data = .dict es ep → Q (.ref it) (upd H it (KItO d it es.size ep))
theorem call_iterD : CallR X (.builtin "iter") rIterD := by
  intro pins s σ H xs us Q I r h
  obtain ⟨d, od, kvs, rfl, hd, q⟩ := h
  obtain ⟨u, rfl, ru⟩ := vals1 r
  cases ru
  obtain ⟨hs, hgd, hx, es, ep, vs, hdt, hsz, _, _⟩ := I.frzK hd
  refine Calls.call_function_entry (by decide +kernel) (by decide +kernel) PySem.W.kdk_entry_iter (PySem.W.kdk_args_iter _) ?_
  unfold Builtin.«iter»
  refine wpAny_bind (m := someArgs "iter" 1 2 _) (wpAny_of_eq (a := [Value.ref d]) (by first | rfl | kernel_rfl!) ?_)
  show wpAny _ _ (pyIter (.ref d) >>= _) _ _ _
  refine wpAny_bind (iter_keys hs hgd hx hdt ?_)
  exact wpAny_pure ⟨_, rfl, .ref s.heap.objs.size, _, I.laid (t' := s.toks) (fun b u e => Heap.get?_push_of_some _ e) (Nat.le_refl _) (kit_ok ⟨_, Heap.get?_push_size _ rfl, rfl, rfl⟩), rfl, q _ es ep (I.hok.fresh (Nat.le_refl _)) hdt⟩
/-- a thing of ours is forgotten, whatever became of it -/
theorem inv_drop {h' : Heap} {a : Addr} {φ : Heap → Prop} {t' : Nat} (I : Inv X pins σ H s) (ha : H a = some (.ext φ)) (n0 : X.s_0.heap.get? a = none ∨ a ∈ X.ex) (gk : ∀ b o, b ≠ a → s.heap.get? b = some o → h'.get? b = some o) :
    Inv X pins σ (delH H a) { s with heap := h', toks := t' } := by
  have ne0 : ∀ b o, X.s_0.heap.get? b = some o → b ∉ X.ex → b ≠ a := fun b o e hb z => by
    subst z
    rcases n0 with n | n
    · rw [n] at e; cases e
    · exact hb n
  have neN : ∀ b, H b = none → b ≠ a := fun b e z => by
    rw [z, ha] at e
    cases e
  have neT : ∀ b xs, H b = some (.tup xs) → b ≠ a := fun b xs e z => by
    rw [z, ha] at e
    cases e
  have neF : ∀ b o u, H b = some (.frz o u) → b ≠ a := fun b o u e z => by
    rw [z, ha] at e
    cases e
  have neB : ∀ b ps, H b = some (.tbl ps) → b ≠ a := fun b ps e z => by
    rw [z, ha] at e
    cases e
  have neO : ∀ b c, H b = some (.own c) → b ≠ a := fun b c e z => by
    rw [z, ha] at e
    cases e
  have cellK : ∀ x c, X.env.cells.lookup x = some c → ∀ v, s.heap.IsCell c v → h'.IsCell c v := fun x c e v ⟨o, ho, hd⟩ => ⟨o, gk c o (neN c (I.freeC x c e)) ho, hd⟩
  refine ⟨I.ok, I.os, I.bare, ⟨fun b o e n hb hq => ?_, fun b o e n hb hq => ?_, fun b o e n hq => ?_, fun b o e hq => ?_, fun b xs e => ?_, fun b o u e => ?_, fun b ps e => ?_⟩, ?_, fun x c e => ?_, ?_, fun x c e => ?_, fun p hp => ?_, fun b u e => ?_, I.len⟩
  · exact gk b o (ne0 b o e hq) (I.base.keep b o e n hb hq)
  · obtain ⟨sl, q⟩ := I.base.slot b o e n hb hq
    exact ⟨sl, gk b _ (ne0 b o e hq) q⟩
  · rw [delH_ne (ne0 b o e hq)]
    exact I.base.free b o e n hq
  · obtain ⟨o', q⟩ := I.base.there b o e hq
    exact ⟨o', gk b o' (ne0 b o e hq) q⟩
  · have q := I.base.tups b xs e
    rw [delH_ne (neT b xs q)]
    exact q
  · have q := I.base.frzs b o u e
    rw [delH_ne (neF b o u q)]
    exact q
  · obtain ⟨m, q⟩ := I.base.tbls b ps e
    exact ⟨m, by rw [delH_ne (neB b _ q)]; exact q⟩
  · obtain ⟨m, ⟨o, es, ep, ho, r⟩, hl⟩ := I.loc
    refine ⟨m, ⟨o, es, ep, gk _ _ (neN _ I.free) ho, r⟩, fun i x v e1 e2 e3 => ?_⟩
    obtain ⟨u, r', l⟩ := hl i x v e1 e2 e3
    refine ⟨u, r', ?_⟩
    rcases l with l | ⟨k, c, ec, z⟩
    · exact .inl l
    · exact .inr ⟨k, c, ec, cellK x c ec _ z⟩
  · obtain ⟨v, z⟩ := I.cell x c e
    exact ⟨v, cellK x c e v z⟩
  · rw [delH_ne (neN _ I.free)]
    exact I.free
  · rw [delH_ne (neN _ (I.freeC x c e))]
    exact I.freeC x c e
  · obtain ⟨e, n, ne, nf, d⟩ := I.pin p hp
    exact ⟨gk _ _ (neN _ n) e, by rw [delH_ne (neN _ n)]; exact n, ne, nf, d⟩
  · have hb : b ≠ a := fun z => by
      rw [z, delH_same] at e
      cases e
    rw [delH_ne hb] at e
    refine (I.hok b u e).stay (fun c v hc q => gk c v ?_ q) (fun c q => ?_) fun c xs q => ?_
    · rcases hc with z | z
      · rw [z]
        exact hb
      · exact neO _ _ z
    · rw [delH_ne (neO c b q)]
      exact q
    · rw [delH_ne (neT c xs q)]
      exact q
end
end R0

/-! list(o), o an instance of an own class with __len__, whose __iter__ gives iter(d). -/
namespace R0
open PySem PySem.Spec PyProof.Rows L2

section
variable {X : Cx} {n : Nat} {C f : Addr} {fd : FuncData} {ps : List PySem.Str} {sp : Sp} {E : XK}
/-- a def that raises nothing, called below, whatever is to hold of errors -/
theorem run_below0 {A : Around} {pins : List (Addr × Obj)} {σ : L2.St} {H : Hp} {s : Shared} {Q : VK} {us : List Value} {vs : List V} {XE' : Value → Shared → Prop} (sb : Sub X n A) (F : FnOk X.prog X.w X.K X.mg X.base CX0 n f fd ps sp) (hb : Binds X.K fd ps []) (I : Inv X pins σ H s) (r : Vals vs us) (h : sp vs H Q E) :
    wpAny (model X.prog X.w) A (call (.ref f) us) (fun v s' => EP X pins σ Q v s' ∧ CE X.stack X.prog X.w H s Q v s') XE' s := by
  have e0 : Env0 X.prog X.w X.K X.mg X.base A X.stack s H := by
    have e := I.env0
    exact ⟨by rw [sb.fr]; exact e.frames, e.mod, e.bs, e.bsz, e.funs, e.frf, e.hok, e.bare⟩
  have hl : (us ++ []).length = ps.length := by rw [List.append_nil, ← r.length, F.len _ _ _ _ h]
  refine wpAny_call (codeAny_mono (F.run A X.stack s H ⟨us, []⟩ us vs Q E sb.room e0 (by have z := hb s us I.kIn hl; rw [List.append_nil] at z; exact z) r h) fun r s' hq => ?_)
  cases r with
  | error e => exact False.elim hq
  | ok fl =>
    cases fl with
    | ret w => exact ⟨I.after hq, hq⟩
    | next => exact False.elim hq
    | brk => exact False.elim hq
    | cont => exact False.elim hq
theorem keys_vals_of {kvs : List (Key × V)} {vs : List (Key × Value)} {acc : Array Value} (rk : KV kvs vs) (hacc : ItemsOf (fun i v => ∃ k x, vs[i]? = some (k, x) ∧ keyIs k v = true) acc vs.length) : Vals (kvs.map fun kv => kV kv.1) acc.toList := by
  have hl : kvs.length = vs.length := Paired.length rk
  have el : acc.toList.length = acc.size := by simp
  refine vals_of_at (by rw [List.length_map, el, hacc.1, hl]) fun j x w h1 h2 => ?_
  obtain ⟨k, y, hky, hi⟩ := hacc.2 j w (by rw [← Array.getElem?_toList]; exact h2)
  have e1 : (kvs.map (·.1))[j]? = some k := by
    rw [KV.keys rk, List.getElem?_map, hky] <;> rfl
  have e2 : (kvs.map fun kv => kV kv.1)[j]? = some (kV k) := by
    have e3 : (kvs.map fun kv => kV kv.1) = (kvs.map (·.1)).map kV := by rw [List.map_map] <;> rfl
    rw [e3, List.getElem?_map, e1] <;> rfl
  rw [e2] at h1
  cases h1
  exact keyIs_rel hi
/-- what list(o) reads -/
def rListW (C : Addr) (spI : Sp) (EI : XK) (spL : Sp) (EL : XK) : List V → Hp → VK → Prop := fun xs H Q => ∃ a dx fs d od kvs, xs = [.ref a] ∧ H a = some (.ins C dx fs) ∧ H d = some (.frz od (.dK kvs)) ∧
  (∀ H', H' a = H a → H' d = H d → spI [.ref a] H' (fun v H'' => ∃ it es ep, v = .ref it ∧ H' it = none ∧ od.data = .dict es ep ∧ H'' = upd H' it (KItO d it es.size ep)) EI) ∧
  (∀ H', H' a = H a → H' d = H d → spL [.ref a] H' (fun v H'' => ∃ i : Int, v = .int i ∧ 0 ≤ i ∧ i < 1000000 ∧ H'' = H') EL) ∧
  ∀ q, H q = none → Q (.ref q) (upd H q (.lst (kvs.map fun kv => kV kv.1)))
end

section
variable {X : Cx} {n : Nat} {C fI fL : Addr} {fdI fdL : FuncData} {psI psL : List PySem.Str} {spI spL : Sp} {EI EL : XK}
theorem hint_own {A : Around} {pins : List (Addr × Obj)} {σ : L2.St} {H : Hp} {s : Shared} {a dx : Addr} {fs : List (PySem.Str × V)} {Q : Bool → Shared → Prop} {XE' : Value → Shared → Prop} (sb : Sub X (n + 1) A) (mL : OwnM X CX0 n C "__len__" fL fdL psL spL EL) (I : Inv X pins σ H s) (ha : H a = some (.ins C dx fs))
    (h : spL [.ref a] H (fun v H'' => ∃ i : Int, v = .int i ∧ 0 ≤ i ∧ i < 1000000 ∧ H'' = H) EL) (q : ∀ b s', Inv X pins σ H s' → Q b s') : wpAny (model X.prog X.w) A (Builtin.List.listLengthHint (.ref a)) Q XE' s := by
  obtain ⟨od, J⟩ := ins_inst I ha
  obtain ⟨mm, hF⟩ := I.fr
  unfold Builtin.List.listLengthHint
  refine wpAny_bind (wpAny_bind (J.type.here ((PySem.W.looks_findIn I.kIn mL.s).here ?_)))
  refine PySem.W.KFB.if_not rfl ?_
  refine wpAny_bind (wpAny_rule ?_)
  refine wpAny_bind (wpAny_attempt ?_)
  refine PySem.W.len_K hF I.ok.mod.kin J mL.s mL.fn (thn (run_below0 sb.in1 mL.F mL.b I (.cons (vr a) .nil) h) fun w s' ⟨⟨v, H', I', rv, i, e, h0, h1, e2⟩, _⟩ => ?_)
  subst e e2
  obtain ⟨t, rfl⟩ := rv
  refine ⟨⟨h0, by omega⟩, ?_⟩
  refine wpAny_bind (wpAny_of_eq (a := some i) (by first | rfl | kernel_rfl) ?_)
  dsimp only
  rw [if_neg (by rw [L2.notLongL (by rw [sizeLine_eq]; omega)]; exact Bool.false_ne_true)]
  exact wpAny_pure (q _ _ (I'.tok _))
theorem call_listW (hc : X.calm = true) (mI : OwnM X CX0 n C "__iter__" fI fdI psI spI EI) (mL : OwnM X CX0 n C "__len__" fL fdL psL spL EL) (hr : Room (n + 3) X.A) : CallR X (.type "list") (rListW C spI EI spL EL) := by
  intro pins s σ H xs us Q I rv h
  obtain ⟨a, dx, fs, d, od, kvs, rfl, ha, hd, hI, hL, hq⟩ := h
  obtain ⟨u, rfl, ru⟩ := rv.one
  cases ru
  have sb : Sub X (n + 1) X.A.in1.in1 := (Sub.in1 (Sub.in1 (⟨hr, rfl⟩ : Sub X (n + 3) X.A)))
  refine callType_codes (Q₁ := fun obj s₁ => obj = .ref s.heap.objs.size ∧ s₁ = { s with heap := s.heap.push { cls := .type "list", data := .seq #[] } }) PySem.F.called_list (PySem.F.typeCall_list_1 _) PySem.F.entry_list_init
    (code_list_new _ ⟨rfl, rfl⟩) fun obj s₁ h₁ => ?_
  obtain ⟨rfl, rfl⟩ := h₁
  have hS : (s.heap.push { cls := .type "list", data := .seq #[] }).get? s.heap.objs.size = some { cls := .type "list", data := .seq #[] } := Heap.get?_push_size _ rfl
  refine ⟨⟨_, hS, rfl⟩, PySem.F.args_list_init_2 _ _, ?_⟩
  have fr : H s.heap.objs.size = none := I.hok.fresh (Nat.le_refl _)
  have I1 : Inv X pins σ (upd H s.heap.objs.size (.lst [])) { s with heap := s.heap.push { cls := .type "list", data := .seq #[] } } := I.lnew (its := []) (t' := s.toks) .nil (Nat.zero_le _)
  generalize hqq : s.heap.objs.size = q at *
  show wpAny _ _ (do let old ← Builtin.List.listItems (.ref q); Builtin.List.listUpdate (.ref q) (fun _ => #[]); letGo old.toList.reverse; Builtin.List.listExtendWith (.ref q) (.ref a) .none) _ _ _
  refine wpAny_bind ?_
  unfold Builtin.List.listItems
  refine wpAny_bind (wpAny_seqItems hS rfl (wpAny_pure ?_))
  show wpAny _ _ (updateSeq q (fun _ => #[]) >>= fun _ => letGo (#[] : Array Value).toList.reverse >>= fun _ => Builtin.List.listExtendWith (.ref q) (.ref a) .none) _ _ _
  refine wpAny_bind (wpAny_updateSeq hS rfl ?_)
  have I2 := I1.lset (f := fun _ => #[]) (its := []) (its' := []) (ys := []) (t' := s.toks) upd_same hS rfl .nil (Nat.zero_le _)
  rw [upd_upd] at I2
  refine wpAny_bind (wpAny_letGo ?_)
  generalize hs2 : ({ s with heap := (s.heap.push { cls := .type "list", data := .seq #[] }).update q (Obj.mapSeq fun _ => #[]), toks := s.toks } : Shared) = s2 at I2
  have hqa : a ≠ q := ne_of_none ha fr
  have hqd : d ≠ q := ne_of_none hd fr
  generalize hH2 : upd H q (.lst []) = H2 at I2
  have ha2 : H2 a = H a := by rw [← hH2, upd_ne hqa]
  have hd2 : H2 d = H d := by rw [← hH2, upd_ne hqd]
  have hq2 : H2 q = some (.lst []) := by rw [← hH2, upd_same]
  have goal2 : wpAny (model X.prog X.w) X.A.in1.in1 (Builtin.List.listExtendWith (.ref q) (.ref a) .none)
      (fun fin s' => match fin with | .done f => wants (fun r s₂ => r = .none ∧ EP X pins σ Q (.ref q) s₂) X.xe (.ok f) s' | .again c' => c'.quiet = true ∧ codeAny (model X.prog X.w) X.A.in1 c' (wants (fun r s₂ => r = .none ∧ EP X pins σ Q (.ref q) s₂) X.xe) s') (fun e s' => wants (fun r s₂ => r = .none ∧ EP X pins σ Q (.ref q) s₂) X.xe (.error e) s') s2 := by
    obtain ⟨oda, J⟩ := ins_inst I2 (ha2.trans ha)
    obtain ⟨m0, hF⟩ := I2.fr
    unfold Builtin.List.listExtendWith
    refine wpAny_bind (J.type.here ?_)
    have h1 : Builtin.List.listSameRef (.ref q) (.ref a) = false := by simp [Builtin.List.listSameRef, Ne.symm hqa]
    have h2 : (Value.ref C == Value.type "list") = false := rfl
    have h3 : (Value.ref C == Value.type "tuple") = false := rfl
    simp only [h1, h2, h3, Bool.or_false, Bool.false_eq_true, if_false]
    refine wpAny_bind (PySem.W.owit_iter hF I2.ok.mod.kin J mI.s mI.fn (thn (run_below0 (sb.mono (Nat.le_succ n)) mI.F mI.b I2 (.cons (vr a) .nil) (hI H2 ha2 hd2)) fun w s3 ⟨I3, c3⟩ => ?_))
    obtain ⟨v, H', I3, rv3, it, es, ep, ev, hn, hdat, eH⟩ := I3
    subst ev eH
    cases rv3
    have n0 : X.s_0.heap.get? it = none ∨ it ∈ X.ex := by
      by_cases hx : it ∈ X.ex
      · exact .inr hx
      · refine .inl ?_
        cases e0 : X.s_0.heap.get? it with
        | none => rfl
        | some o =>
          obtain ⟨o', e1⟩ := I2.base.there it o e0 hx
          obtain ⟨v', H0, _, _, un, _, r0, it', es', ep', ev', hn', hdat', eH'⟩ := c3
          subst ev' eH'
          cases r0
          have z := un.free it o' e1 hn (fun z => nomatch z)
          rw [upd_same] at z
          cases z
    have hita : a ≠ it := ne_of_none (ha2.trans ha) hn
    have hitd : d ≠ it := ne_of_none (hd2.trans hd) hn
    have hitq : q ≠ it := ne_of_none hq2 hn
    generalize hH5 : upd H2 it (KItO d it es.size ep) = H5 at I3
    have ha5 : H5 a = H a := by rw [← hH5, upd_ne hita, ha2]
    have hd5 : H5 d = H d := by rw [← hH5, upd_ne hitd, hd2]
    have hq5 : H5 q = some (.lst []) := by rw [← hH5, upd_ne hitq, hq2]
    have hi5 : H5 it = some (KItO d it es.size ep) := by rw [← hH5, upd_same]
    have hk3 := kit_get I3 hi5
    unfold PySem.W.OwitIt
    refine wpAny_specialOf hk3.typeIs F.slot_dict_keyiterator_next.lookup ?_
    have loop : ∀ s5, Inv X pins σ H5 s5 → codeAny (model X.prog X.w) X.A.in1 (.builtin "list.extend.loop" ⟨[.ref q, .ref it, .none], []⟩) (wants (fun r s₂ => r = .none ∧ EP X pins σ Q (.ref q) s₂) X.xe) s5 := by
      intro s5 I5
      have hk := kit_get I5 hi5
      obtain ⟨hs, hgd, hx, es', ep', vs, hdt, hsz, kv, hat⟩ := I5.frzK (hd5.trans hd)
      rw [hdat] at hdt
      injection hdt with e1 e2
      subst e1 e2
      have hl : kvs.length = vs.length := Paired.length kv
      rw [hsz, hl] at hk
      obtain ⟨z, its, c, r3, hl3, e3⟩ := I5.lstM hq5
      cases r3
      obtain ⟨_, zk, _⟩ := (show ObjOk X.prog X.w H5 s5.heap d (.frz od (.dK kvs)) from I5.hok d _ (hd5.trans hd))
      have hh : X.A.in1.in1.handled = none := I.ok.hd hc
      refine codeAny_extend_loopS ((Walks.dictKeys (knd := mixKind X.prog X.w) hh it d hitd vs ep).toS) (by rw [← hl]; exact zk) q (by
        intro hm
        rcases List.mem_cons.mp hm with e | hm
        · exact hitq e
        · exact hqd (List.mem_singleton.mp hm).symm) .none vs.length 0 s5 #[] c (Nat.sub_zero _) (Nat.zero_le _) ⟨hk, hat⟩ e3 ⟨rfl, fun j v e => by simp at e⟩ fun s' acc c' mv hS' hacc => ?_
      have I6 := inv_drop (h' := s'.heap.update q fun _ => { cls := .type "list", dict := none, data := .seq #[] c, slots := #[] }) (t' := s'.toks) I5 hi5 n0 fun b o hb e => by
        by_cases hbq : b = q
        · subst hbq
          rw [e3] at e
          cases e
          exact Heap.get?_update_self _ hS' rfl
        · rw [Heap.get?_update_other _ _ (Ne.symm hbq)]
          exact mv.heap b o (by simp [hb, hbq]) e
      have eD : delH H5 it = H2 := by rw [← hH5]; exact delH_new hn
      rw [eD] at I6
      have I7 := I6.write (x := q) (e := q) (o := .lst (kvs.map fun kv => kV kv.1)) (h' := s'.heap) (t' := s'.toks) (by rw [hq2]; trivial) (.inl rfl) (fun b u hb e => by
        have e' : (s'.heap.update q fun _ => { cls := .type "list", dict := none, data := .seq #[] c, slots := #[] }).get? b = some u := e
        rw [Heap.get?_update_other _ _ (Ne.symm hb)] at e'
        exact e') ⟨_, hS'⟩ ⟨by rw [List.length_map]; exact zk, acc.toList, c', keys_vals_of kv hacc, by rw [Array.toArray_toList]; exact hS'⟩
      refine ⟨rfl, .ref q, _, ?_, rfl, hq q fr⟩
      rw [← hH2, upd_upd] at I7
      obtain ⟨h', g', d', t', os'⟩ := s'
      obtain ⟨m1, m2, m3, m4, m5⟩ := mv
      obtain rfl : g' = s5.gens := m2
      obtain rfl : d' = s5.drawn := m3
      obtain rfl : os' = s5.os := m4
      exact I7
    refine wpAny_bind (wpAny_holding (hint_own sb mL I3 (ha5.trans ha) (hL H5 ha5 hd5) fun b s5 I5 => ?_))
    obtain ⟨z, its, k, r3, hl3, e3⟩ := I5.lstM hq5
    cases r3
    refine wpAny_ite_split (fun _ => ?_) (fun _ => wpAny_pure ⟨plainId_quiet PySem.F.plain_extend_loop _, loop s5 I5⟩)
    refine wpAny_bind (wpAny_rule ?_)
    refine wpAny_bind ?_
    show wpAny _ _ (updateSeq q (·.push .none) >>= fun _ => updateSeq q (·.pop)) _ _ _
    refine wpAny_bind (wpAny_updateSeq e3 rfl ?_)
    have J2 := I5.lset (f := (·.push Value.none)) (its' := [Value.none]) (ys := [.non]) (t' := s5.toks) hq5 e3 (by simp) (.cons rfl .nil) (by rw [List.length_singleton, sizeLine_eq]; decide)
    obtain ⟨z4, its4, k4, r4, hl4, e4⟩ := J2.lstM upd_same
    obtain ⟨u4, rfl, ru4⟩ := r4.one
    refine wpAny_updateSeq e4 rfl ?_ (by show 1 ≤ sizeLine; rw [sizeLine_eq]; decide) (by show 0 ≤ sizeLine + 1; exact Nat.zero_le _)
    have J3 := J2.lset (f := (·.pop)) (its := [u4]) (its' := []) (ys := []) (t' := s5.toks) upd_same e4 (by rfl) .nil (Nat.zero_le _)
    rw [upd_upd] at J3
    have hH : upd H5 q (.lst []) = H5 := by
      funext b
      by_cases hb : b = q
      · rw [hb, upd_same, hq5]
      · rw [upd_ne hb]
    rw [hH] at J3
    exact wpAny_pure ⟨plainId_quiet PySem.F.plain_extend_loop _, loop _ J3⟩

  exact goal2
end
end R0

/-! What a marking tells. -/
namespace M46
open PySem PySem.Spec PyProof.Rows L2 R0 K1

theorem call_lenR {X : Cx} : CallR X (.builtin "len") (fun xs H Q => ∃ a kvs, xs = [V.ref a] ∧ Rd H a (.dK kvs) ∧ Q (.int kvs.length) H) := by
  intro pins s σ H xs us Q I r h
  obtain ⟨a, kvs, rfl, ha, q⟩ := h
  obtain ⟨u, rfl, ru⟩ := vals1 r
  obtain rfl : u = Value.ref a := ru
  exact d_len I ha fun t s' I' => ⟨.int kvs.length, H, I', ⟨t, rfl⟩, q⟩
theorem wd_keys (ws : List (S × S)) : ((wd ws).map fun kv => kV kv.1) = (ws.map (·.1)).map V.str := by
  unfold wd
  rw [List.map_map, List.map_map]
  rfl
/-- a marking whose words may be locked -/
structure MkR (C : Addr) (H : Hp) (a : Addr) (ws : List (S × S)) (r : S) : Prop where
  ex : ∃ dx d, H a = some (.ins C dx (fl d r)) ∧ Rd H d (.dK (wd ws))
def spOther (C : Addr) : Sp := fun vs H Q _ => ∃ a ws r, vs = [.ref a] ∧ MkAt C H a ws r ∧ Q (.str r) H
def spKinds (C : Addr) : Sp := fun vs H Q _ => ∃ a ws r, vs = [.ref a] ∧ MkAt C H a ws r ∧ ∀ q, H q = none → Q (.ref q) (upd H q (.tup ((ws.map (·.1)).map V.str)))
def spWordOf (C : Addr) : Sp := fun vs H Q _ => ∃ a ws r k, vs = [.ref a, .str k] ∧ MkAt C H a ws r ∧ Q (.str (gw ws r k)) H
def spLen (C : Addr) : Sp := fun vs H Q _ => ∃ a ws r, vs = [.ref a] ∧ MkR C H a ws r ∧ Q (.int (ws.length : Nat)) H
def spIter (C : Addr) : Sp := fun vs H Q _ => ∃ a ws r dx d od, vs = [.ref a] ∧ H a = some (.ins C dx (fl d r)) ∧ H d = some (.frz od (.dK (wd ws))) ∧ ∀ it es ep, H it = none → od.data = .dict es ep → Q (.ref it) (upd H it (KItO d it es.size ep))
def spGet (C : Addr) : Sp := fun vs H Q _ => ∃ a ws r k, vs = [.ref a, .str k] ∧ MkAt C H a ws r ∧ nm k = true ∧ Q (.str (gw ws r k)) H
section
variable {P : Program} {w : World} {K : PySem.W.Frag} {mg : PySem.Str → Option Value} {base : Heap} {C : Addr}
theorem scOther : FnScope ["self"] ["self"] (defScope sOther) := ⟨rfl, rfl, rfl, by decide +kernel, rfl, by decide +kernel, by decide +kernel⟩
theorem ok_other {f : Addr} {fd : FuncData} (F : Fun K "other" "Marking.other" sOther f fd) (cf : ClsF K C) : FnOk P w K mg base CX0 1 f fd ["self"] (spOther C) := by
  refine F.ok scOther (fun vs H Q E h => ?_) (fun cdv A outer s H vs Q E hr h => ?_)
  · obtain ⟨a, ws, r, rfl, _⟩ := h
    rfl
  · obtain ⟨a, ws, r, rfl, ⟨dx, d, ha, hd⟩, q⟩ := h
    refine ⟨_, (pss_one (ps_ret (pe_fld (pv 0) rfl))), ?_⟩
    exact ⟨_, rfl, a, C, dx, _, _, rfl, ha, cf.cl, cf.nR, fl_r _ _, q⟩
theorem scKinds : FnScope ["self"] ["self"] (defScope sKinds) := ⟨rfl, rfl, rfl, by decide +kernel, rfl, by decide +kernel, by decide +kernel⟩
theorem ok_kinds {f : Addr} {fd : FuncData} (F : Fun K "kinds" "Marking.kinds" sKinds f fd) (T : Bare mg) (cf : ClsF K C) : FnOk P w K mg base CX0 1 f fd ["self"] (spKinds C) := by
  refine F.ok scKinds (fun vs H Q E h => ?_) (fun cdv A outer s H vs Q E hr h => ?_)
  · obtain ⟨a, ws, r, rfl, _⟩ := h
    rfl
  · obtain ⟨a, ws, r, rfl, ⟨dx, d, ha, hd⟩, q⟩ := h
    refine ⟨_, (pss_one (ps_ret (pe_callTy (R0.call_tuple_dK rfl) (by rfl) T.tup (by decide +kernel) (pa_cons (pe_fld (pv 0) rfl) pa_nil)))), ?_⟩
    refine ⟨_, rfl, a, C, dx, _, _, rfl, ha, cf.cl, cf.nW, fl_w _ _, d, wd ws, rfl, .inl hd, fun p hp => ?_⟩
    rw [wd_keys]
    exact q p hp
theorem scWordOf : FnScope ["self", "kind"] ["self", "kind"] (defScope sWordOf) := ⟨rfl, rfl, rfl, by decide +kernel, rfl, by decide +kernel, by decide +kernel⟩
theorem ok_wordof {f : Addr} {fd : FuncData} (F : Fun K "word_of" "Marking.word_of" sWordOf f fd) (cf : ClsF K C) : FnOk P w K mg base CX0 1 f fd ["self", "kind"] (spWordOf C) := by
  refine F.ok scWordOf (fun vs H Q E h => ?_) (fun cdv A outer s H vs Q E hr h => ?_)
  · obtain ⟨a, ws, r, k, rfl, _⟩ := h
    rfl
  · obtain ⟨a, ws, r, k, rfl, ⟨dx, d, ha, hd⟩, q⟩ := h
    have hu := hu_of hr
    refine ⟨_, (pss_one (ps_ret (pe_dget2 hu (pe_fld (pv 0) rfl) (pv 1) (pe_fld (pv 0) rfl) ⟨rfl, rfl, rfl, rfl⟩))), ?_⟩
    refine ⟨_, rfl, a, C, dx, _, _, rfl, ha, cf.cl, cf.nW, fl_w _ _, d, rfl, .inl ⟨_, .inl hd⟩, _, rfl, _, rfl, a, C, dx, _, _, rfl, ha, cf.cl, cf.nR, fl_r _ _, _, DGet.k (k := Sum.inr k) hd, ?_⟩
    rw [val_gw]
    exact q
theorem scLen : FnScope ["self"] ["self"] (defScope sLen) := ⟨rfl, rfl, rfl, by decide +kernel, rfl, by decide +kernel, by decide +kernel⟩
theorem ok_len {f : Addr} {fd : FuncData} (F : Fun K "__len__" "Marking.__len__" sLen f fd) (T : Bare mg) (cf : ClsF K C) : FnOk P w K mg base CX0 1 f fd ["self"] (spLen C) := by
  refine F.ok scLen (fun vs H Q E h => ?_) (fun cdv A outer s H vs Q E hr h => ?_)
  · obtain ⟨a, ws, r, rfl, _⟩ := h
    rfl
  · obtain ⟨a, ws, r, rfl, ⟨dx, d, ha, hd⟩, q⟩ := h
    refine ⟨_, (pss_one (ps_ret (pe_callB call_lenR (by rfl) T.len (by decide +kernel) (pa_cons (pe_fld (pv 0) rfl) pa_nil)))), ?_⟩
    refine ⟨_, rfl, a, C, dx, _, _, rfl, ha, cf.cl, cf.nW, fl_w _ _, d, wd ws, rfl, hd, ?_⟩
    rw [wd_len]
    exact q
theorem scIter : FnScope ["self"] ["self"] (defScope sIter) := ⟨rfl, rfl, rfl, by decide +kernel, rfl, by decide +kernel, by decide +kernel⟩
theorem ok_iter {f : Addr} {fd : FuncData} (F : Fun K "__iter__" "Marking.__iter__" sIter f fd) (T : Bare mg) (cf : ClsF K C) : FnOk P w K mg base CX0 1 f fd ["self"] (spIter C) := by
  refine F.ok scIter (fun vs H Q E h => ?_) (fun cdv A outer s H vs Q E hr h => ?_)
  · obtain ⟨a, ws, r, dx, d, od, rfl, _⟩ := h
    rfl
  · obtain ⟨a, ws, r, dx, d, od, rfl, ha, hd, q⟩ := h
    refine ⟨_, (pss_one (ps_ret (pe_callB call_iterD (by rfl) T.iter (by decide +kernel) (pa_cons (pe_fld (pv 0) rfl) pa_nil)))), ?_⟩
    exact ⟨_, rfl, a, C, dx, _, _, rfl, ha, cf.cl, cf.nW, fl_w _ _, d, od, wd ws, rfl, hd, q⟩
theorem no_lk {m : S} {d : Addr} {r : S} (h1 : ¬ m = "_words") (h2 : ¬ m = "_rest") : (fl d r).lookup m = none := by
  rw [← fl_put, lookup_putF, if_neg h2, lookup_putF, if_neg h1]
  rfl
theorem scGet : FnScope ["self", "at"] ["self", "at"] (defScope sGet) := ⟨rfl, rfl, rfl, by decide +kernel, rfl, by decide +kernel, by decide +kernel⟩
theorem ok_get {f fN fW : Addr} {fd fdN fdW : FuncData} (F : Fun K "__getitem__" "Marking.__getitem__" sGet f fd) (T : Bare mg) (c : Cst K mg) (cf : ClsF K C) (FN : Fun K "is_name" "is_name" sIsName fN fdN) (bN : Binds K fdN ["value"] []) (mN : mg "is_name" = some (.ref fN))
    (FW : Fun K "word_of" "Marking.word_of" sWordOf fW fdW) (bW : Binds K fdW ["self", "kind"] []) (mW : Meth K C "word_of" fW) : FnOk P w K mg base CX0 2 f fd ["self", "at"] (spGet C) := by
  have GN : FnOk P w K mg base CX0 1 fN fdN ["value"] spIsName := ok_is_name FN T c
  have GW : FnOk P w K mg base CX0 1 fW fdW ["self", "kind"] (spWordOf C) := ok_wordof FW cf
  refine F.ok scGet (fun vs H Q E h => ?_) (fun cdv A outer s H vs Q E hr h => ?_)
  · obtain ⟨a, ws, r, k, rfl, _⟩ := h
    rfl
  · obtain ⟨a, ws, r, k, rfl, ⟨dx, d, ha, hd⟩, hk, q⟩ := h
    have hr1 : Room 1 _ := hr
    have hr2 : Room 1 _ := hr
    refine ⟨_, (pss_cons (ps_if (pt_not (pt_val (pe_call GN hr1 (by rfl) mN FN.kp bN .nil pass0 (pa_cons (pv 1) pa_nil)))) (pss_one ps_never) pss_nil)
      (pss_one (ps_ret (pe_meth (pv 0) cf.cl mW GW hr2 bW .nil pass0 (pa_cons (pv 1) pa_nil))))), ?_⟩
    refine ⟨_, rfl, k, rfl, by have := nm_len hk; omega, ?_⟩
    rw [hk]
    exact ⟨true, rfl, _, rfl, a, dx, _, rfl, ha, no_lk (by decide +kernel) (by decide +kernel), _, rfl, a, ws, r, k, rfl, ⟨dx, d, ha, hd⟩, q⟩
end
end M46

/-! is_at_most, ==. -/
namespace M46
open PySem PySem.Spec PyProof.Rows L2 R0 K1

/-- words that are fine -/
structure Fine (ws : List (S × S)) (r : S) : Prop where
  nm : ∀ k ∈ ws.map (·.1), nm k = true
  vs : ∀ v ∈ ws.map (·.2), v ∈ W3
  r : r ∈ W3
  len : ws.length ≤ 100
theorem gw_w3 {ws : List (S × S)} {r : S} (h : Fine ws r) (k : S) : gw ws r k ∈ W3 := by
  by_cases m : k ∈ ws.map (·.1)
  · exact h.vs _ (gw_mem m)
  · rw [gw_not m]; exact h.r
def leW (ws : List (S × S)) (r : S) (vs : List (S × S)) (q : S) : Bool := !((ws.map (·.1) ++ (vs.map (·.1) ++ [oth])).any fun k => decide (rk (gw vs q k) < rk (gw ws r k)))
def eqW (ws : List (S × S)) (r : S) (vs : List (S × S)) (q : S) : Bool := leW ws r vs q && leW vs q ws r
theorem fm_bl (f : S → Bool) : ∀ ks : List S, ((ks.map V.str).filterMap fun x => match x with | .str k => some (V.bl (f k)) | _ => none) = (ks.map f).map V.bl
  | [] => rfl
  | k :: ks => by
    show V.bl (f k) :: ((ks.map V.str).filterMap _) = _
    rw [fm_bl f ks]
    rfl
/-- what isinstance asks of the class -/
structure IsF (K : PySem.W.Frag) (C CM : Addr) : Prop where
  ha : PySem.W.findIn K (.ref C) "__class__" = some (some (.builtin "object.__class__"))
  hn : PySem.W.specialIn K (.builtin "object.__class__") "__get__" = some (some (.builtin "getset_descriptor.__get__"))
  htk : PySem.W.takesIn K (.builtin "object.__class__") = some true
  hm : PySem.W.mroIn K C (.type "object") = some true
  one : PySem.W.kitOne K (.ref C) (.ref CM) = some true
def spAtMost (C : Addr) : Sp := fun vs H Q _ => ∃ a b ws r us q, vs = [.ref a, .ref b] ∧ MkAt C H a ws r ∧ MkAt C H b us q ∧ Fine ws r ∧ Fine us q ∧ ∀ H', Same H H' → Q (.bl (leW ws r us q)) H'
def spEq (K : PySem.W.Frag) (C CM : Addr) : Sp := fun vs H Q _ => ∃ a ws r y, vs = [.ref a, y] ∧ MkAt C H a ws r ∧ Fine ws r ∧
  ((∃ b us q, y = .ref b ∧ MkAt C H b us q ∧ Fine us q ∧ ∀ H', Same H H' → Q (.bl (eqW ws r us q)) H') ∨ ∃ t, TyX K H y t ∧ PySem.W.kitOne K t (.ref CM) = some false ∧ Q (.bl false) H)
section
variable {P : Program} {w : World} {K : PySem.W.Frag} {mg : PySem.Str → Option Value} {base : Heap} {C CM : Addr}
theorem scAtMost : FnScope ["self", "value", "kinds", "kind"] ["self", "value"] (defScope sAtMost) := ⟨rfl, rfl, rfl, by decide +kernel, rfl, by decide +kernel, by decide +kernel⟩
theorem ok_atmost {f fK fW fL p : Addr} {fd fdK fdW fdL : FuncData} (F : Fun K "is_at_most" "Marking.is_at_most" sAtMost f fd) (T : Bare mg) (c : Cst K mg) (cf : ClsF K C) (is : IsF K C CM) (mM : mg "Marking" = some (.ref CM))
    (FK : Fun K "kinds" "Marking.kinds" sKinds fK fdK) (bK : Binds K fdK ["self"] []) (pK : PropOf K C "kinds" p fK) (FW : Fun K "word_of" "Marking.word_of" sWordOf fW fdW) (bW : Binds K fdW ["self", "kind"] []) (mW : Meth K C "word_of" fW)
    (FL : Fun K "is_less" "is_less" sLess fL fdL) (bL : Binds K fdL ["word", "other"] []) (mL : mg "is_less" = some (.ref fL)) : FnOk P w K mg base CX0 3 f fd ["self", "value"] (spAtMost C) := by
  have GK : FnOk P w K mg base CX0 1 fK fdK ["self"] (spKinds C) := ok_kinds FK T cf
  have GW : FnOk P w K mg base CX0 1 fW fdW ["self", "kind"] (spWordOf C) := ok_wordof FW cf
  have GL : FnOk P w K mg base CX0 1 fL fdL ["word", "other"] spLess := ok_less FL c
  refine F.ok scAtMost (fun vs H Q E h => ?_) (fun cdv A outer s H vs Q E hr h => ?_)
  · obtain ⟨a, b, ws, r, us, q, rfl, _⟩ := h
    rfl
  · obtain ⟨a, b, ws, r, us, q, rfl, ⟨dx, d, ha, hd⟩, ⟨dy, e, hb, he⟩, fa, fb, k⟩ := h
    have hr1 : Room 2 _ := hr.mono (by decide)
    have hr2 : Room 1 _ := hr.mono (by decide)
    refine ⟨_, (pss_cons (ps_if (pt_not (pt_val (pe_callB call_isi (by rfl) T.isi (by decide +kernel) (pa_cons (pv 1) (pa_cons (pe_glob (v := .ref CM) rfl mM rfl) pa_nil))))) (pss_one (ps_ret pe_bl)) pss_nil)
      (pss_cons (ps_set (i := 2) scAtMost.nd rfl (Or.inl rfl) (pe_tup (pa_starD rfl (pe_fld (pv 0) rfl) (StX.pa_star (pe_prop (pv 1) cf.cl pK GK hr1 bK .nil pass0 rfl) (pa_cons pe_str pa_nil)))))
      (pss_one (ps_ret (pe_not (pe_callB (cr_any rfl) (by rfl) T.any (by decide +kernel) (pa_cons (pe_lc (own := [("kind", 3)]) (g := gName 3) (tt := tYes) rfl scAtMost.nd (pi_tup (pv 2)) (blkOk_by (own := [("kind", 3)]) (N := ["self", "value", "kinds", "kind"]) (sc := defScope sAtMost) (by decide +kernel)) (fun _ _ _ _ _ => pg_name (i := 3) scAtMost.nd rfl (Or.inl rfl)) (fun _ _ _ _ _ => pts_nil) (fun _ _ _ _ _ => (pe_call GL hr2 (by rfl) mL FL.kp bL .nil pass0 (pa_cons (pe_meth (pv 1) cf.cl mW GW hr2 bW .nil pass0 (pa_cons (pv 3) pa_nil)) (pa_cons (pe_meth (pv 0) cf.cl mW GW hr2 bW .nil pass0 (pa_cons (pv 3) pa_nil)) pa_nil))))) pa_nil))))))), ?_⟩
    refine ⟨_, rfl, _, .ref CM, _, .ref CM, true, rfl, .own _, .base (.ins hb cf.cl is.ha is.hn is.htk is.hm), is.one, true, rfl, ?_⟩
    refine ⟨_, rfl, a, C, dx, _, _, rfl, ha, cf.cl, cf.nW, fl_w _ _, d, wd ws, rfl, .inl hd, _, rfl, b, dy, _, rfl, hb, b, us, q, rfl, ⟨dy, e, hb, he⟩, fun p hp => ?_⟩
    refine ⟨p, _, rfl, .inl (.inl (.inl upd_same)), ?_, fun t ht => ?_⟩
    · rw [List.length_append, List.length_append, List.length_map, wd_len, List.length_map, List.length_map, sizeLine_eq]
      have := fa.len
      have := fb.len
      simp only [List.length_cons, List.length_nil]
      omega
    rw [wd_keys] at *
    have s1 : Same H (upd H p (.tup ((us.map (·.1)).map V.str))) := same_upd hp
    generalize upd H p (.tup ((us.map (·.1)).map V.str)) = G at s1 ht ⊢
    have ez : (ws.map (·.1)).map V.str ++ ((us.map (·.1)).map V.str ++ [V.str "other"]) = (ws.map (·.1) ++ (us.map (·.1) ++ [oth])).map V.str := by
      rw [List.map_append, List.map_append]
      rfl
    have hl : (ws.map (·.1) ++ (us.map (·.1) ++ [oth])).length ≤ 1000 := by
      rw [List.length_append, List.length_append, List.length_map, List.length_map]
      have := fa.len
      have := fb.len
      simp only [List.length_cons, List.length_nil]
      omega
    rw [ez]
    have hq : (upd G t (.tup ((ws.map (·.1) ++ (us.map (·.1) ++ [oth])).map V.str))) t = some (.tup ((ws.map (·.1) ++ (us.map (·.1) ++ [oth])).map V.str)) := upd_same
    have s2 : Same H (upd G t (.tup ((ws.map (·.1) ++ (us.map (·.1) ++ [oth])).map V.str))) := s1.trans (same_upd ht)
    generalize upd G t (.tup ((ws.map (·.1) ++ (us.map (·.1) ++ [oth])).map V.str)) = G2 at hq s2 ⊢
    refine ⟨_, rfl, t, rfl, ⟨_, .inl (.inl hq)⟩, fun D n0 => ?_⟩
    have sD : ∀ o, Same H (upd G2 D o) := fun o => s2.trans (same_upd n0)
    refine lc_ex wk_tup (fun x => match x with | .str k => some (V.bl (decide (rk (gw us q k) < rk (gw ws r k)))) | _ => none) (xs := (ws.map (·.1) ++ (us.map (·.1) ++ [oth])).map V.str) (fun ys => .inl (.inl (by rw [upd_ne (ne_of_none hq n0)]; exact hq))) (by rw [List.length_map]; exact hl) (fun i x ys R Nn hx hR hN => ⟨rfl, ?_⟩) ?_
    · obtain ⟨k, rfl⟩ : ∃ k, x = .str k := by
        rw [List.getElem?_map] at hx
        cases z : (ws.map (·.1) ++ (us.map (·.1) ++ [oth]))[i]? with
        | none => rw [z] at hx; cases hx
        | some k => rw [z] at hx; exact ⟨k, (Option.some.inj hx).symm⟩
      have ha' := sD (.lst ys) _ _ ha
      have hd' := sD (.lst ys) _ _ hd
      have hb' := sD (.lst ys) _ _ hb
      have he' := sD (.lst ys) _ _ he
      refine ⟨_, rfl, b, dy, _, rfl, hb', no_lk (by decide +kernel) (by decide +kernel), _, rfl, b, us, q, k, rfl, ⟨dy, e, hb', he'⟩, _, rfl, a, dx, _, rfl, ha', no_lk (by decide +kernel) (by decide +kernel), _, rfl, a, ws, r, k, rfl, ⟨dx, d, ha', hd'⟩, _, _, rfl, gw_w3 fb k, gw_w3 fa k, hR _ rfl⟩
    · rw [fm_bl fun k => decide (rk (gw us q k) < rk (gw ws r k))]
      refine ⟨D, _, rfl, SqL.of upd_same, ?_⟩
      refine ⟨_, rfl, ?_⟩
      rw [List.any_map]
      exact k _ (sD _)
theorem scEq : FnScope ["self", "other"] ["self", "other"] (defScope sEq) := ⟨rfl, rfl, rfl, by decide +kernel, rfl, by decide +kernel, by decide +kernel⟩
theorem ok_eq {f fA : Addr} {fd fdA : FuncData} (F : Fun K "__eq__" "Marking.__eq__" sEq f fd) (T : Bare mg) (cf : ClsF K C) (is : IsF K C CM) (mM : mg "Marking" = some (.ref CM))
    (GA : FnOk P w K mg base CX0 3 fA fdA ["self", "value"] (spAtMost C)) (bA : Binds K fdA ["self", "value"] []) (mA : Meth K C "is_at_most" fA) : FnOk P w K mg base CX0 4 f fd ["self", "other"] (spEq K C CM) := by
  refine F.ok scEq (fun vs H Q E h => ?_) (fun cdv A outer s H vs Q E hr h => ?_)
  · obtain ⟨a, ws, r, y, rfl, _⟩ := h
    rfl
  · obtain ⟨a, ws, r, y, rfl, ⟨dx, d, ha, hd⟩, fa, k⟩ := h
    have hr3 : Room 3 _ := hr.mono (by decide)
    refine ⟨_, (pss_one (ps_ret (pe_and (pe_callB call_isi (by rfl) T.isi (by decide +kernel) (pa_cons (pv 1) (pa_cons (pe_glob (v := .ref CM) rfl mM rfl) pa_nil))) (pe_and (pe_meth (pv 0) cf.cl mA GA hr3 bA .nil pass0 (pa_cons (pv 1) pa_nil)) (pe_one (pe_meth (pv 1) cf.cl mA GA hr3 bA .nil pass0 (pa_cons (pv 0) pa_nil))))))), ?_⟩
    rcases k with ⟨b, us, q, rfl, ⟨dy, e, hb, he⟩, fb, k⟩ | ⟨t, ty, kt, k⟩
    · refine ⟨_, rfl, _, .ref CM, _, .ref CM, true, rfl, .own _, .base (.ins hb cf.cl is.ha is.hn is.htk is.hm), is.one, true, rfl, ?_⟩
      refine ⟨_, rfl, a, dx, _, rfl, ha, no_lk (by decide +kernel) (by decide +kernel), _, rfl, a, b, ws, r, us, q, rfl, ⟨dx, d, ha, hd⟩, ⟨dy, e, hb, he⟩, fa, fb, fun G sG => ⟨_, rfl, ?_⟩⟩
      unfold eqW at k
      cases z : leW ws r us q with
      | false =>
        rw [z] at k
        exact k G sG
      | true =>
        rw [z] at k
        refine ⟨_, rfl, b, dy, _, rfl, sG _ _ hb, no_lk (by decide +kernel) (by decide +kernel), _, rfl, b, a, us, q, ws, r, rfl, ⟨dy, e, sG _ _ hb, sG _ _ he⟩, ⟨dx, d, sG _ _ ha, sG _ _ hd⟩, fb, fa, fun G2 sG2 => ?_⟩
        exact k G2 (sG.trans sG2)
    · exact ⟨_, rfl, _, .ref CM, _, .ref CM, false, rfl, .own _, ty, kt, false, rfl, k⟩
end
end M46

/-! str of a marking. -/
namespace M46
open PySem PySem.Spec PyProof.Rows L2 R0 K1

def tEnt (t1 t2 t3 : TE) : TE := fun σ H Q => tJs [t1, t2, t3] Str.empty σ H fun out H1 => Q (.str out) H1
theorem pe_ent {X : Cx} {a b c : Expr} {t1 t2 t3 : TE} {pos : Pos} (h : PJ X [a, b, c] [t1, t2, t3]) : PE X (.JoinedStr [a, b, c] pos) (tEnt t1 t2 t3) := pe_joined h
def ent (x : S × S) : S := (x.1 ++ (" " : S)) ++ x.2
def txt (ws : List (S × S)) (r : S) : S := Txt.join (", " : S) (ws.map ent ++ [("other " : S) ++ r])
def spStr (C : Addr) : Sp := fun vs H Q _ => ∃ a ws r, vs = [.ref a] ∧ MkAt C H a ws r ∧ Fine ws r ∧ ∀ H', Same H H' → Q (.str (txt ws r)) H'
theorem w3_len {v : S} (h : v ∈ W3) : v.length ≤ 7 := by
  have hx' : v = w0 ∨ v = w1 ∨ v = w2 := by simpa [W3] using h
  rcases hx' with e | e | e <;> subst e <;> decide +kernel
theorem ent_len {x : S × S} (h1 : nm x.1 = true) (h2 : x.2 ∈ W3) : (ent x).length ≤ 16 := by
  unfold ent
  rw [Str.length_append, Str.length_append]
  have := nm_len h1
  have := w3_len h2
  have : (" " : S).length = 1 := by decide +kernel
  omega
theorem sum_le {n : Nat} : ∀ {l : List Nat}, (∀ x ∈ l, x ≤ n) → l.sum ≤ l.length * n
  | [], _ => by simp
  | a :: l, h => by
    rw [List.sum_cons, List.length_cons, Nat.add_mul, Nat.one_mul]
    have h1 := h a (by simp)
    have h2 := sum_le (l := l) fun x hx => h x (by simp [hx])
    omega
section
variable {P : Program} {w : World} {K : PySem.W.Frag} {mg : PySem.Str → Option Value} {base : Heap} {C : Addr}
theorem scStr : FnScope ["self", "kind", "word"] ["self"] (defScope sStr) := ⟨rfl, rfl, rfl, by decide +kernel, rfl, by decide +kernel, by decide +kernel⟩
theorem ok_str {f : Addr} {fd : FuncData} (F : Fun K "__str__" "Marking.__str__" sStr f fd) (cf : ClsF K C) : FnOk P w K mg base CX0 1 f fd ["self"] (spStr C) := by
  refine F.ok scStr (fun vs H Q E h => ?_) (fun cdv A outer s H vs Q E hr h => ?_)
  · obtain ⟨a, ws, r, rfl, _⟩ := h
    rfl
  · obtain ⟨a, ws, r, rfl, ⟨dx, d, ha, hd⟩, fa, k⟩ := h
    have hsz : (1000 : Nat) ≤ sizeLine := by rw [sizeLine_eq]; omega
    refine ⟨_, (pss_one (ps_ret (pe_join pe_str (pe_lst (StX.pa_star (pe_lock (pe_lc (own := [("kind", 1), ("word", 2)]) (g := gTup K 2 (gCons (gName 1) (gCons (gName 2) gNil))) (tt := tYes) rfl scStr.nd (pi_items (pe_fld (pv 0) rfl)) (blkOk_by (own := [("kind", 1), ("word", 2)]) (N := ["self", "kind", "word"]) (sc := defScope sStr) (by decide +kernel)) (fun _ _ _ _ _ => pg_tup rfl (pgs_cons (pg_name (i := 1) scStr.nd rfl (Or.inl rfl)) (pgs_cons (pg_name (i := 2) scStr.nd rfl (Or.inl rfl)) pgs_nil))) (fun _ _ _ _ _ => pts_nil) (fun _ _ _ _ _ => (pe_ent (.cons (pe_fmt (pv 1)) (.cons pe_str (.cons (pe_fmt (pv 2)) .nil))))))) (pa_cons (pe_joined (.cons pe_str (.cons (pe_fmt (pe_fld (pv 0) rfl)) .nil))) pa_nil)))))), ?_⟩
    refine ⟨⟨_, rfl⟩, d, _, hd, trivial, fun od => ?_⟩
    have had : a ≠ d := ne_of ha hd (fun z => nomatch z)
    refine ⟨_, rfl, a, C, dx, _, _, rfl, by rw [upd_ne had]; exact ha, cf.cl, cf.nW, fl_w _ _, d, od, wd ws, rfl, upd_same, fun D n0 => ?_⟩
    have hdD : d ≠ D := ne_of_none upd_same n0
    have nD : H D = none := by rw [upd_ne hdD.symm] at n0; exact n0
    refine lc_gr (J := Iti d od (wd ws)) (H1 := upd H d (.frz od (.dK (wd ws)))) (D := D) (n := ws.length) (fun i ys G => G d = some (.frz od (.dK (wd ws))) ∧ (∀ b u, b ≠ d → H b = some u → G b = some u) ∧ ys = ((ws.take i).map ent).map V.str) (by have := fa.len; omega) (fun i ys G ⟨h1, _, _⟩ hi => ⟨h1, by rw [wd_len]; exact hi⟩) (fun ys G ⟨h1, _, _⟩ => ⟨h1, by rw [wd_len]; exact Nat.le_refl _⟩)
      ⟨by rw [upd_ne hdD, upd_same], fun b u hb e => by rw [upd_ne (ne_of_none e nD), upd_ne hb]; exact e, rfl⟩ (fun i x ys G G' R Nn hi hD hP hy hR hN => ?_) (fun ys G hD hP => ?_)
    · obtain ⟨h1, h2, rfl⟩ := hP
      obtain ⟨T, kk, v, hk, rfl, hT, rfl⟩ := hy
      have hw : ws[i]? = some ws[i] := List.getElem?_eq_getElem hi
      unfold wd at hk
      rw [List.getElem?_map, hw] at hk
      injection (Option.some.inj hk) with e1 e2
      subst e1 e2
      have hm : ws[i] ∈ ws := List.getElem_mem hi
      have n1 := fa.nm ws[i].1 (List.mem_map.mpr ⟨_, hm, rfl⟩)
      have n2 := fa.vs ws[i].2 (List.mem_map.mpr ⟨_, hm, rfl⟩)
      have l1 := nm_len n1
      have l2 := w3_len n2
      have l3 : (" " : S).length = 1 := by decide +kernel
      have e0 : Str.empty ++ ws[i].1 = ws[i].1 := Str.empty_append _
      refine ⟨T, _, rfl, .inl (.inl upd_same), rfl, _, _, rfl, _, _, rfl, rfl, rfl, ?_⟩
      refine ⟨_, rfl, .inl ⟨_, rfl, by omega, _, rfl, by rw [e0]; omega, _, rfl, by rw [e0, Str.length_append]; omega, _, rfl, .inl ⟨_, rfl, by omega, _, rfl, by rw [e0, Str.length_append, Str.length_append]; omega, ?_⟩⟩⟩
      rw [e0]
      have hTd : d ≠ T := ne_of_none h1 hT
      have hTD : D ≠ T := ne_of_none hD hT
      refine hR _ _ (by rw [upd_ne hTD]; exact hD) ⟨by rw [upd_ne hdD, upd_ne hTd]; exact h1, fun b u hb e => ?_, ?_⟩
      · rw [upd_ne (ne_of_none e nD), upd_ne (ne_of_none (h2 b u hb e) hT)]
        exact h2 b u hb e
      · rw [List.take_add_one, hw, List.map_append, List.map_append]
        rfl
    · obtain ⟨h1, h2, rfl⟩ := hP
      refine ⟨h1, ?_⟩
      rw [List.take_length] at hD
      have s1 : Same H (upd G d (.dK (wd ws))) := fun b u e => by
        by_cases hb : b = d
        · rw [hb] at e ⊢
          rw [upd_same, ← hd, e]
        · rw [upd_ne hb]
          exact h2 b u hb e
      have hD2 : (upd G d (.dK (wd ws))) D = some (.lst ((ws.map ent).map V.str)) := by rw [upd_ne hdD.symm]; exact hD
      generalize upd G d (.dK (wd ws)) = G2 at s1 hD2
      have lr := w3_len fa.r
      have lo : ("other " : S).length = 6 := by decide +kernel
      have e0 : Str.empty ++ ("other " : S) = "other " := Str.empty_append _
      refine ⟨D, _, rfl, .inr (.inl (.inl hD2)), ?_⟩
      refine ⟨_, rfl, by rw [e0]; omega, _, rfl, a, C, dx, _, _, rfl, s1 _ _ ha, cf.cl, cf.nR, fl_r _ _, .inl ⟨_, rfl, by omega, _, rfl, by rw [e0, Str.length_append]; omega, ?_⟩⟩
      rw [e0]
      have hlen := fa.len
      refine ⟨by rw [List.length_append, List.length_map, List.length_map]; simp only [List.length_cons, List.length_nil]; omega, fun q hq => ?_⟩
      refine ⟨", ", q, ws.map ent ++ [("other " : S) ++ r], rfl, rfl, .inl (SqL.of (upd_same.trans (by rw [List.map_append]; rfl))), ?_, k _ (s1.trans (same_upd hq))⟩
      have b1 : ((ws.map ent ++ [("other " : S) ++ r]).map (·.length)).sum ≤ (ws.map ent ++ [("other " : S) ++ r]).length * 16 := by
        have := sum_le (n := 16) (l := (ws.map ent ++ [("other " : S) ++ r]).map (·.length)) fun x hx => by
          obtain ⟨y, hy, rfl⟩ := List.mem_map.mp hx
          rcases List.mem_append.mp hy with hy | hy
          · obtain ⟨z, hz, rfl⟩ := List.mem_map.mp hy
            exact ent_len (fa.nm _ (List.mem_map.mpr ⟨z, hz, rfl⟩)) (fa.vs _ (List.mem_map.mpr ⟨z, hz, rfl⟩))
          · rw [List.mem_singleton.mp hy, Str.length_append]
            omega
        rw [List.length_map] at this
        exact this
      have b2 : (", " : S).length = 2 := by decide +kernel
      rw [List.length_append, List.length_map] at b1 ⊢
      simp only [List.length_cons, List.length_nil] at b1 ⊢
      rw [b2]
      refine Nat.le_trans (Nat.add_le_add_right b1 _) ?_
      omega
end
end M46

/-! Marking.of, even, with_word. -/
namespace M46
open PySem PySem.Spec PyProof.Rows L2 R0 K1

def slf : S := "self"
/-- the class that of makes -/
def clsOf (CM CT : Addr) (ws : List (S × S)) : Addr := if slf ∈ ws.map (·.1) then CT else CM
def noOth (ws : List (S × S)) : List (S × S) := ws.filter fun x => !decide (x.1 = oth)
theorem gw_noOth {r k : S} (h : k ≠ oth) : ∀ {ws : List (S × S)}, gw (noOth ws) r k = gw ws r k
  | [] => rfl
  | (a, b) :: ws => by
    unfold noOth
    by_cases e : a = oth
    · rw [List.filter_cons_of_neg (by simpa using e), gw_cons, if_neg (fun z => h (z.trans e))]
      exact gw_noOth h
    · rw [List.filter_cons_of_pos (by simpa using e), gw_cons, gw_cons]
      by_cases f : k = a
      · rw [if_pos f, if_pos f]
      · rw [if_neg f, if_neg f]
        exact gw_noOth h
def normd (ws : List (S × S)) : List (S × S) := putS (noOth ws) oth (rest ws)
theorem oth_noOth {ws : List (S × S)} : oth ∉ (noOth ws).map (·.1) := by
  intro h
  obtain ⟨x, hx, e⟩ := List.mem_map.mp h
  have := (List.mem_filter.mp hx).2
  simp [e] at this
theorem rest_norm {ws : List (S × S)} : rest (normd ws) = rest ws := by
  unfold rest normd
  rw [gw_put, if_pos rfl]
  rfl
theorem gw_norm {ws : List (S × S)} (k : S) : gw (normd ws) (rest ws) k = gw ws (rest ws) k := by
  unfold normd
  rw [gw_put]
  by_cases e : k = oth
  · rw [if_pos e, e]
    by_cases m : oth ∈ ws.map (·.1)
    · exact gw_any m
    · rw [gw_not m]
  · rw [if_neg e]
    exact gw_noOth e
theorem rest_w3 {ws : List (S × S)} (h : ∀ v ∈ ws.map (·.2), v ∈ W3) : rest ws ∈ W3 := by
  unfold rest
  by_cases m : oth ∈ ws.map (·.1)
  · exact h _ (gw_mem m)
  · rw [gw_not m]
    exact List.mem_cons_self
theorem nm_oth : nm oth = true := by decide +kernel
theorem wok_norm {ws : List (S × S)} (h : Wok ws) (hl : ws.length ≤ 39) : Wok (normd ws) := by
  unfold normd
  have hsub : List.Sublist (noOth ws) ws := List.filter_sublist
  refine ⟨fun k hk => ?_, vals_put (p := fun v => v ∈ W3) (fun v hv => h.vs v ((hsub.map _).mem hv)) (rest_w3 h.vs), nodup_put ((hsub.map (·.1)).nodup h.nd), ?_⟩
  · rcases mem_put.mp hk with hk | hk
    · exact h.nm k ((hsub.map _).mem hk)
    · rw [hk]; exact nm_oth
  · have := len_put (k := oth) (v := rest ws) (ws := noOth ws)
    have := hsub.length_le
    omega
theorem canon_norm {ws vs : List (S × S)} {r : S} (h : Canon (normd ws) vs r) : Canon ws vs r := by
  obtain ⟨e, ys, h1, h2, h3, h4, h5, h6⟩ := h
  rw [rest_norm] at e h5 h6
  have ef : gw (normd ws) (rest ws) = gw ws (rest ws) := funext gw_norm
  rw [ef] at h5 h6
  exact ⟨e, ys, h1, h2, h3, h4, h5, h6⟩
theorem kv_look_oth {ws : List (S × S)} : ((ws.map fun x => (x.1, V.str x.2)).lookup ("other" : S)).getD (V.str w0) = V.str (rest ws) := by
  unfold rest gw
  have : ∀ ws : List (S × S), (ws.map fun x => (x.1, V.str x.2)).lookup ("other" : S) = (ws.lookup oth).map V.str := fun ws => by
    induction ws with
    | nil => rfl
    | cons a ws ih =>
      rw [List.map_cons, List.lookup_cons, List.lookup_cons]
      show (match oth == a.1 with | true => some (V.str a.2) | false => _) = _
      cases oth == a.1 with
      | true => rfl
      | false => exact ih
  rw [this]
  cases ws.lookup oth <;> rfl
theorem kv_noOth {ws : List (S × S)} : nmK ((ws.map fun x => (x.1, V.str x.2)).filter fun q => !decide (q.1 = ("other" : S))) = wd (noOth ws) := by
  rw [← wd_nmK]
  congr 1
  unfold noOth
  rw [List.filter_map]
  rfl
def spOf (CM CT : Addr) : Sp := fun vs H Q _ => ∃ (d : Addr) (ws : List (S × S)), vs = [.ref CM, .ref d] ∧ H d = some (.dK (wd ws)) ∧ Wok ws ∧ ws.length ≤ 39 ∧
  ∀ (H' : Hp) (b : Addr) (us : List (S × S)) (r : S), Same H H' → H b = none → MkAt (clsOf CM CT ws) H' b us r → Canon ws us r → Q (.ref b) H'
def spEven (CM : Addr) : Sp := fun vs H Q _ => ∃ v : S, vs = [.ref CM, .str v] ∧ v ∈ W3 ∧
  ∀ (H' : Hp) (b : Addr) (us : List (S × S)) (r : S), Same H H' → H b = none → MkAt CM H' b us r → Canon [(oth, v)] us r → Q (.ref b) H'
section
variable {P : Program} {w : World} {K : PySem.W.Frag} {mg : PySem.Str → Option Value} {base : Heap} {C CM CT : Addr}
theorem scOf : FnScope ["cls", "words"] ["cls", "words"] (defScope sOf) := ⟨rfl, rfl, rfl, by decide +kernel, rfl, by decide +kernel, by decide +kernel⟩
theorem made_same {H : Hp} {x dx C : Addr} (nx : H x = none) (nd : H dx = none) : Same H (upd (upd H dx (.own x)) x (.ins C dx [])) := fun b o e => by
  rw [upd_ne (ne_of_none e nx), upd_ne (ne_of_none e nd)]
  exact e
/-- Marking by keywords, from a dict of them -/
theorem make_kw {H : Hp} {Q : VK} {E : XK} {ws : List (S × S)} (ok : Wok ws) (hl : ws.length ≤ 39) (hs : slf ∉ ws.map (·.1)) (q : ∀ (H' : Hp) (b : Addr) (us : List (S × S)) (r : S), Same H H' → H b = none → MkAt CM H' b us r → Canon ws us r → Q (.ref b) H') :
    rMakeW CM (spW "self" "other" (V.str w0) (spInit CM)) E (ws.map fun x => (x.1, V.str x.2)) H Q := by
  intro x dx nx nd nex
  have s1 := made_same (C := CM) nx nd
  have hk : (ws.map fun x => (x.1, V.str x.2)).map (·.1) = ws.map (·.1) := by rw [List.map_map]; rfl
  refine ⟨by rw [hk]; exact hs, by rw [hk]; exact ok.nd, by rw [List.length_map]; omega, fun d hd => ?_⟩
  rw [kv_look_oth, kv_noOth]
  have hx : (upd (upd H dx (.own x)) x (.ins CM dx [])) x = some (.ins CM dx []) := upd_same
  have hxd : x ≠ d := ne_of_none hx hd
  refine ⟨x, dx, d, noOth ws, rest ws, rfl, by rw [upd_ne hxd]; exact hx, upd_same, wok_norm ok hl, fun H' us r s2 m c => ⟨rfl, q H' x us r (fun b u e => ?_) nx m (canon_norm c)⟩⟩
  have hbx : b ≠ x := ne_of_none e nx
  refine s2 b u hbx ?_
  rw [upd_ne (ne_of_none (s1 _ _ e) hd)]
  exact s1 _ _ e
theorem ok_of {f fN fC fT fM : Addr} {fd fdN fdC fdT : FuncData} (F : Fun K "of" "Marking.of" sOf f fd) (T : Bare mg) (c : Cst K mg) (FN : Fun K "is_name" "is_name" sIsName fN fdN) (bN : Binds K fdN ["value"] []) (mN : mg "is_name" = some (.ref fN))
    (FC : Fun K "_check_words" "_check_words" sCheck fC fdC) (bC : Binds K fdC ["words"] []) (mC : mg "_check_words" = some (.ref fC))
    (MT : Mk K CT fT) (GT : FnOk P w K mg base CX0 4 fT fdT ["self", "words"] (spTaken CT)) (bT : Binds K fdT ["self", "words"] []) (mT : mg "TakenMarking" = some (.ref CT))
    (MM : Mk K CM fM) (GM : FnW P w K mg base CX0 4 fM (spW "self" "other" (V.str w0) (spInit CM))) (mM : mg "Marking" = some (.ref CM)) : FnOk P w K mg base CX0 6 f fd ["cls", "words"] (spOf CM CT) := by
  have GC : FnOk P w K mg base CX0 2 fC fdC ["words"] spCheck := ok_check FC T c FN bN mN
  refine F.ok scOf (fun vs H Q E h => ?_) (fun cdv A outer s H vs Q E hr h => ?_)
  · obtain ⟨d, ws, rfl, _⟩ := h
    rfl
  · obtain ⟨d, ws, rfl, hd, ok, hl, q⟩ := h
    have hr2 : Room 2 _ := hr.mono (by decide)
    have hu := hu_of hr
    refine ⟨_, (pss_cons (ps_expr (pe_call GC hr2 (by rfl) mC FC.kp bC .nil pass0 (pa_cons (pv 1) pa_nil)))
      (pss_one (ps_ret (pe_ifExp (pt_cmp (pc_din hu pe_str (pv 1))) (pe_make MT GT hr (by rfl) mT bT .nil pass0 (pa_cons (pv 1) pa_nil)) (pe_makeSS MM GM hr rfl mM pass0 (pv 1)))))), ?_⟩
    refine ⟨_, rfl, d, ws, rfl, hd, ok, fun G sG => ?_⟩
    have hd' := sG _ _ hd
    refine ⟨_, rfl, d, _, rfl, DGet.k (k := Sum.inr slf) hd', _, rfl, ?_⟩
    rw [val_some]
    unfold clsOf at q
    by_cases hs : slf ∈ ws.map (·.1)
    · rw [if_pos hs] at q
      rw [decide_eq_true hs]
      refine ⟨_, rfl, fun x dx nx nd nex => ?_⟩
      have s1 := made_same (C := CT) nx nd
      have hxn : H x = none := sG.free nx
      refine ⟨x, dx, d, ws, rfl, upd_same, s1 _ _ hd', ok, fun H' us r s2 m cn => ⟨rfl, q H' x us r (fun b u e => ?_) hxn m cn⟩⟩
      exact s2 b u (ne_of_none e hxn) (s1 _ _ (sG _ _ e))
    · rw [if_neg hs] at q
      rw [decide_eq_false hs]
      refine fun p hp => ⟨_, rfl, d, ws.map fun x => (x.1, V.str x.2), rfl, ne_of_none hd' hp, ?_, upd_same, by rw [List.length_map]; omega, ?_⟩
      · rw [wd_nmK]
        exact .inl (by rw [upd_ne (ne_of_none hd' hp)]; exact hd')
      · rw [upd_upd]
        refine make_kw ok hl hs fun H' b us r s2 nb m cn => q H' b us r (fun b u e => s2 _ _ (same_upd hp _ _ (sG _ _ e))) (sG.free ((same_upd hp).free nb)) m cn
theorem scEven : FnScope ["cls", "word"] ["cls", "word"] (defScope sEven) := ⟨rfl, rfl, rfl, by decide +kernel, rfl, by decide +kernel, by decide +kernel⟩
theorem ok_even {f fM : Addr} {fd : FuncData} (F : Fun K "even" "Marking.even" sEven f fd) (MM : Mk K CM fM) (GM : FnW P w K mg base CX0 4 fM (spW "self" "other" (V.str w0) (spInit CM))) (mM : mg "Marking" = some (.ref CM)) : FnOk P w K mg base CX0 6 f fd ["cls", "word"] (spEven CM) := by
  refine F.ok scEven (fun vs H Q E h => ?_) (fun cdv A outer s H vs Q E hr h => ?_)
  · obtain ⟨v, rfl, _⟩ := h
    rfl
  · obtain ⟨v, rfl, hv, q⟩ := h
    refine ⟨_, (pss_one (ps_ret (pe_makeKV (ks := ["other"]) MM GM hr rfl mM pass0 (pk_cons (pv 1) pk_nil)))), ?_⟩
    refine ⟨_, rfl, ?_⟩
    have ok : Wok [(oth, v)] := ⟨fun k hk => by rw [List.mem_singleton.mp hk]; exact nm_oth, fun x hx => by rw [List.mem_singleton.mp hx]; exact hv, by simp, by simp⟩
    exact make_kw (ws := [(oth, v)]) ok (by simp) (by intro z; exact absurd (List.mem_singleton.mp z) (show ¬ slf = oth by decide +kernel)) q
end
end M46

/-! with_word. -/
namespace M46
open PySem PySem.Spec PyProof.Rows L2 R0 K1 ClX

theorem merge_two {ws : List (S × S)} {r k v : S} (h : (ws.map (·.1)).Nodup) (ho : oth ∉ ws.map (·.1)) : mergeK (mergeK [] (wd ws)) (mergeK [] (wd [(oth, r), (k, v)])) = wd (putS (ws ++ [(oth, r)]) k v) := by
  rw [merge_nil h]
  have e1 : mergeK [] (wd [(oth, r), (k, v)]) = wd (putS [(oth, r)] k v) := by
    show putK (putK (wd []) (Sum.inr oth : Key) (.str r)) (Sum.inr k : Key) (.str v) = _
    rw [put_wd, put_wd]
    rfl
  rw [e1]
  by_cases e : k = oth
  · subst e
    have e2 : putS [(oth, r)] oth v = [(oth, v)] := by simp [putS]
    rw [e2]
    show putK (wd ws) (Sum.inr oth : Key) (.str v) = _
    rw [put_wd, put_new ho]
    unfold putS
    rw [if_pos (by simp)]
    congr 1
    rw [List.map_append]
    have : (ws.map fun x => if x.1 = oth then (x.1, v) else x) = ws := by
      have h2 : ∀ x ∈ ws, (if x.1 = oth then (x.1, v) else x) = x := fun x hx => by
        rw [if_neg]
        intro z
        exact ho (List.mem_map.mpr ⟨x, hx, z⟩)
      rw [List.map_congr_left h2, List.map_id']
    rw [this]
    simp
  · have e2 : putS [(oth, r)] k v = [(oth, r), (k, v)] := by
      rw [put_new (by simpa using e)]
      rfl
    rw [e2]
    show putK (putK (wd ws) (Sum.inr oth : Key) (.str r)) (Sum.inr k : Key) (.str v) = _
    rw [put_wd, put_wd, put_new ho]
def spWith (C CM CT : Addr) : Sp := fun vs H Q _ => ∃ a ws r k v, vs = [.ref a, .str k, .str v] ∧ MkAt C H a ws r ∧ Fine ws r ∧ (ws.map (·.1)).Nodup ∧ oth ∉ ws.map (·.1) ∧ ws.length ≤ 37 ∧ nm k = true ∧ v ∈ W3 ∧
  ∀ (H' : Hp) (b : Addr) (us : List (S × S)) (q : S), Same H H' → H b = none → MkAt (clsOf CM CT (putS (ws ++ [(oth, r)]) k v)) H' b us q → Canon (putS (ws ++ [(oth, r)]) k v) us q → Q (.ref b) H'
theorem wok_with {ws : List (S × S)} {r k v : S} (f : Fine ws r) (nd : (ws.map (·.1)).Nodup) (ho : oth ∉ ws.map (·.1)) (hl : ws.length ≤ 37) (hk : nm k = true) (hv : v ∈ W3) : Wok (putS (ws ++ [(oth, r)]) k v) ∧ (putS (ws ++ [(oth, r)]) k v).length ≤ 39 := by
  have l1 : (putS (ws ++ [(oth, r)]) k v).length ≤ 39 := by
    have := len_put (k := k) (v := v) (ws := ws ++ [(oth, r)])
    rw [List.length_append, List.length_singleton] at this
    omega
  refine ⟨⟨fun j hj => ?_, vals_put (p := fun v => v ∈ W3) (fun x hx => ?_) hv, nodup_put ?_, by omega⟩, l1⟩
  · rcases mem_put.mp hj with hj | hj
    · rw [List.map_append, List.mem_append] at hj
      rcases hj with hj | hj
      · exact f.nm j hj
      · rw [List.mem_singleton.mp hj]; exact nm_oth
    · rw [hj]; exact hk
  · rw [List.map_append, List.mem_append] at hx
    rcases hx with hx | hx
    · exact f.vs x hx
    · rw [List.mem_singleton.mp hx]; exact f.r
  · rw [List.map_append, List.nodup_append]
    refine ⟨nd, by simp, fun a ha b hb => ?_⟩
    rw [List.mem_singleton.mp hb]
    intro e
    have e' : a = oth := e
    exact ho (by rw [← e']; exact ha)
section
variable {P : Program} {w : World} {K : PySem.W.Frag} {mg : PySem.Str → Option Value} {base : Heap} {C CM CT : Addr} {mc : Value}
theorem scWith : FnScope ["self", "kind", "word"] ["self", "kind", "word"] (defScope sWith) := ⟨rfl, rfl, rfl, by decide +kernel, rfl, by decide +kernel, by decide +kernel⟩
theorem ok_with {f fN fO pO : Addr} {fd fdN : FuncData} (F : Fun K "with_word" "Marking.with_word" sWith f fd) (T : Bare mg) (c : Cst K mg) (cf : ClsF K C) (FN : Fun K "is_name" "is_name" sIsName fN fdN) (bN : Binds K fdN ["value"] []) (mN : mg "is_name" = some (.ref fN))
    (mM : mg "Marking" = some (.ref CM)) (cr : CRead K CM mc) (cO : CMet K CM mc "of" pO fO) (GO : FnR P w K mg base CX0 6 fO (spOf CM CT)) : FnOk P w K mg base CX0 7 f fd ["self", "kind", "word"] (spWith C CM CT) := by
  have GN : FnOk P w K mg base CX0 1 fN fdN ["value"] spIsName := ok_is_name FN T c
  refine F.ok scWith (fun vs H Q E h => ?_) (fun cdv A outer s H vs Q E hr h => ?_)
  · obtain ⟨a, ws, r, k, v, rfl, _⟩ := h
    rfl
  · obtain ⟨a, ws, r, k, v, rfl, ⟨dx, d, ha, hd⟩, fa, nd, ho, hl, hk, hv, q⟩ := h
    have hr1 : Room 1 _ := hr.mono (by decide)
    have hr5 : Room 6 _ := hr.mono (by decide)
    obtain ⟨ok, l39⟩ := wok_with fa nd ho hl hk hv
    refine ⟨_, (pss_cons (ps_if (pt_not (pt_val (pe_call GN hr1 (by rfl) mN FN.kp bN .nil pass0 (pa_cons (pv 1) pa_nil)))) (pss_one ps_never) pss_nil)
      (pss_one (ps_ret (pe_cmeth (pe_glob (v := .ref CM) rfl mM rfl) cr cO GO hr5 pass0 (pa_cons (pe_dd (pe_fld (pv 0) rfl) (pps_cons pe_str (pe_fld (pv 0) rfl) (pps_cons (pv 1) (pv 2) pps_nil)) (by rfl) (by rfl) (fun z => by cases z) (by decide)) pa_nil))))), ?_⟩
    refine ⟨_, rfl, k, rfl, by have := nm_len hk; omega, ?_⟩
    rw [hk]
    refine ⟨true, rfl, rfl, fun p hp => ⟨_, rfl, a, C, dx, _, _, rfl, by rw [upd_ne (ne_of_none ha hp)]; exact ha, cf.cl, cf.nW, fl_w _ _, d, wd ws, rfl, .inl (by rw [upd_ne (ne_of_none hd hp)]; exact hd), ne_of_none hd hp, upd_same, by rw [wd_len]; omega, fun e he => ?_⟩⟩
    have hpe : p ≠ e := ne_of_none upd_same he
    have he0 : H e = none := by rw [upd_upd, upd_ne hpe.symm] at he; exact he
    have hap : a ≠ p := ne_of_none ha hp
    have hae : a ≠ e := ne_of_none ha he0
    refine ⟨_, rfl, a, C, dx, _, _, rfl, by rw [upd_ne hae, upd_ne hap, upd_ne hap]; exact ha, cf.cl, cf.nR, fl_r _ _, _, rfl, _, rfl, by rw [upd_ne hpe, upd_same], upd_same, wd [(oth, r), (k, v)], rfl, (by rw [wd_len]; exact Nat.succ_le_succ (Nat.succ_le_succ (Nat.zero_le _))), ?_⟩
    rw [merge_two nd ho]
    have s3 : Same H (upd (upd (upd (upd (upd H p (.dK [])) p (.dK (mergeK [] (wd ws)))) e (.dK [])) e (.dK (mergeK [] (wd [(oth, r), (k, v)])))) p (.dK (wd (putS (ws ++ [(oth, r)]) k v)))) := fun b u eb => by
      have b1 : b ≠ p := ne_of_none eb hp
      have b2 : b ≠ e := ne_of_none eb he0
      rw [upd_ne b1, upd_ne b2, upd_ne b2, upd_ne b1, upd_ne b1]
      exact eb
    exact ⟨p, _, rfl, upd_same, ok, l39, fun H' b us q' s4 nb m cn => q H' b us q' (s3.trans s4) (s3.free nb) m cn⟩
end
end M46

/-! The dice. -/
namespace M46
open PySem PySem.Spec PyProof.Rows L2 R0

/-- dice at p: three numbers -/
structure Dice (H : Hp) (p : Addr) (x y z : Int) : Prop where
  at_ : H p = some (.lst [.int x, .int y, .int z])
  x0 : 0 ≤ x
  x1 : x.natAbs < 2 ^ 2400
  y0 : 0 ≤ y
  y1 : y < 2147483648
  z0 : 0 ≤ z
def spDice (K : PySem.W.Frag) : Sp := fun vs H Q _ => ∃ (a : Addr) (ns : List Int) (i : Int), vs = [.ref a, .int i] ∧ SqL K H a (ns.map V.int) ∧ ns.length ≤ 1000 ∧ 0 ≤ i ∧ ∀ (p : Addr) (x y : Int) (H' : Hp), Same H H' → H p = none → Dice H' p x y 0 → Q (.ref p) H'
def spPull : Sp := fun vs H Q _ => ∃ (p : Addr) (x y z n : Int), vs = [.ref p, .int n] ∧ Dice H p x y z ∧ 0 < n ∧ n < 1000000 ∧
  ∀ (r x' z' : Int) (H' : Hp), 0 ≤ r → r < n → Dice H' p x' y z' → z' ≤ z + 1 → (∀ b o, b ≠ p → H b = some o → H' b = some o) → Q (.int r) H'
def spPick : Sp := fun vs H Q _ => ∃ (p q : Addr) (x y z : Int) (xs : List V), vs = [.ref p, .ref q] ∧ Dice H p x y z ∧ p ≠ q ∧ H q = some (.lst xs) ∧ 0 < xs.length ∧ xs.length < 1000 ∧
  ∀ (j : Nat) (v : V) (x' z' : Int) (H' : Hp), xs[j]? = some v → Dice H' p x' y z' → z' ≤ z + 1 → (∀ b o, b ≠ p → H b = some o → H' b = some o) → Q v H'
section
variable {X : Cx}
theorem op_powX : OpR X (binaryOp .Pow) (rI (fun i j => 0 ≤ j ∧ (Builtin.Int.intBits i : Int) * j ≤ 2 ^ 27) fun i j => .int (i ^ j.toNat)) := opI fun _ _ _ _ _ _ _ hc q => pow_int hc.1 hc.2 q
end
section
variable {P : Program} {w : World} {K : PySem.W.Frag} {mg : PySem.Str → Option Value} {base : Heap}
theorem scDice : FnScope ["_law_script", "_law_at", "_law_cell", "_law_great", "_law_mixed"] ["_law_script", "_law_at"] (defScope sDice) := ⟨rfl, rfl, rfl, by decide +kernel, rfl, by decide +kernel, by decide +kernel⟩
theorem big_pos : (0 : Int) < ((10 : Int) ^ (60 : Int).toNat) ^ (12 : Int).toNat := by decide +kernel
theorem big_lt : (((10 : Int) ^ (60 : Int).toNat) ^ (12 : Int).toNat).natAbs < 2 ^ 2400 := by decide +kernel
theorem big_bits : (Builtin.Int.intBits ((10 : Int) ^ (60 : Int).toNat) : Int) * 12 ≤ 2 ^ 27 := by decide +kernel
theorem dice_made {H : Hp} {p : Addr} {c m : Int} (h : H p = some (.lst [.int (if (if c < 0 then -c else c) % ((10 : Int) ^ (60 : Int).toNat) ^ (12 : Int).toNat - (10 : Int) ^ (18 : Int).toNat > 0 then (if c < 0 then -c else c) % ((10 : Int) ^ (60 : Int).toNat) ^ (12 : Int).toNat - (10 : Int) ^ (18 : Int).toNat else 0), .int (m % 2147483489), .int 0])) :
    Dice H p (if (if c < 0 then -c else c) % ((10 : Int) ^ (60 : Int).toNat) ^ (12 : Int).toNat - (10 : Int) ^ (18 : Int).toNat > 0 then (if c < 0 then -c else c) % ((10 : Int) ^ (60 : Int).toNat) ^ (12 : Int).toNat - (10 : Int) ^ (18 : Int).toNat else 0) (m % 2147483489) 0 := by
  have h1 := Int.emod_nonneg (if c < 0 then -c else c) (Int.ne_of_gt big_pos)
  have h2 := Int.emod_lt_of_pos (if c < 0 then -c else c) big_pos
  have h3 := big_lt
  have h6 : (0 : Int) ≤ (10 : Int) ^ (18 : Int).toNat := by decide
  generalize (if c < 0 then -c else c) % ((10 : Int) ^ (60 : Int).toNat) ^ (12 : Int).toNat = g at h1 h2 h ⊢
  generalize ((10 : Int) ^ (60 : Int).toNat) ^ (12 : Int).toNat = n at h2 h3
  generalize (10 : Int) ^ (18 : Int).toNat = t at h6 h ⊢
  have h4 : g.natAbs < 2 ^ 2400 := Nat.lt_of_le_of_lt (by omega) h3
  refine ⟨h, ?_, ?_, Int.emod_nonneg _ (by decide), Int.lt_trans (Int.emod_lt_of_pos m (show (0 : Int) < 2147483489 by decide)) (by decide), Int.le_refl _⟩
  · split <;> omega
  · split
    · exact Nat.lt_of_le_of_lt (by omega) h4
    · show 0 < 2 ^ 2400
      exact Nat.pow_pos (by decide)
theorem ok_dice {f : Addr} {fd : FuncData} (F : Fun K "_law_dice" "_law_dice" sDice f fd) (T : Bare mg) : FnOk P w K mg base CX0 1 f fd ["_law_script", "_law_at"] (spDice K) := by
  refine F.ok scDice (fun vs H Q E h => ?_) (fun cdv A outer s H vs Q E hr h => ?_)
  · obtain ⟨a, ns, i, rfl, _⟩ := h
    rfl
  · obtain ⟨a, ns, i, rfl, hS, hlen, hi, k⟩ := h
    refine ⟨_, pss_cons (ps_set (i := 2) scDice.nd rfl (Or.inl rfl) (pe_op op_add (pe_op op_mul pe_int (pv 1)) pe_int))
      (pss_cons (ps_if (pt_cmpR op_lt (pv 1) (pe_callB call_len_seq (by rfl) T.len PySem.boot_len (pa_cons (pv 0) pa_nil)) (nomark _)) (pss_one (ps_set (i := 2) scDice.nd rfl (Or.inl rfl) (pe_ix ix_list (pv 0) (pv 1) (fun _ _ => rfl)))) pss_nil)
      (pss_cons (ps_set (i := 3) scDice.nd rfl (Or.inl rfl) (pe_op op_mod (pe_callTy call_int1 (by rfl) T.int (by decide +kernel) (pa_cons (pe_callB call_abs (by rfl) T.abs (by decide +kernel) (pa_cons (pv 2) pa_nil)) pa_nil)) (pe_op op_powX (pe_op op_pow pe_int pe_int) pe_int)))
      (pss_cons (ps_set (i := 4) scDice.nd rfl (Or.inl rfl) (pe_op op_add (pe_op op_add (pe_op op_add (pe_op op_mul (pe_op op_mod (pe_callTy call_int1 (by rfl) T.int (by decide +kernel) (pa_cons (pv 3) pa_nil)) pe_int) pe_int) (pe_op op_mul pe_int (pv 1)))
          (pe_op op_mul pe_int (pe_callTy call_int1 (by rfl) T.int (by decide +kernel) (pa_cons (pe_cmpR op_lt (pv 2) pe_int (nomark _)) pa_nil)))) pe_int))
      (pss_one (ps_ret (pe_lst (pa_cons (pe_callB (call_max2 rfl) (by rfl) T.max (by decide +kernel) (pa_cons pe_int (pa_cons (pe_op op_sub (pv 3) (pe_op op_pow pe_int pe_int)) pa_nil)))
          (pa_cons (pe_op op_mod (pe_callTy call_int1 (by rfl) T.int (by decide +kernel) (pa_cons (pv 4) pa_nil)) pe_int) (pa_cons pe_int pa_nil))))))))), ?_⟩
    refine ⟨_, rfl, _, _, rfl, rfl, .inl ⟨by decide, by decide⟩, _, _, rfl, rfl, _, rfl, _, rfl, a, _, rfl, .inl hS, _, _, rfl, rfl, _, rfl, ?_⟩
    refine ite2 (fun hlt => ?ya) (fun _ => ?na)
    case' ya =>
      have hlt' := of_decide_eq_true hlt
      rw [List.length_map] at hlt'
      obtain ⟨j, rfl⟩ : ∃ j : Nat, i = (j : Int) := ⟨i.toNat, by omega⟩
      have hj : j < ns.length := by omega
      refine ⟨_, rfl, _, rfl, a, _, _, .int ns[j], rfl, rfl, hS, at_of rfl (by rw [List.getElem?_map, List.getElem?_eq_getElem hj] <;> rfl), ?_⟩
    all_goals
      refine ⟨_, rfl, _, rfl, .inl ⟨_, rfl, _, _, rfl, rfl, ⟨by decide, by decide, by decide⟩, _, _, rfl, rfl, ⟨by decide, big_bits⟩, _, _, rfl, rfl, big_pos, ?_⟩⟩
      refine ⟨_, rfl, .inl ⟨_, rfl, _, _, rfl, rfl, (by show (0 : Int) < 2147483543; decide), _, _, rfl, rfl, .inr ⟨by decide, by decide⟩, _, rfl, _, _, rfl, rfl, .inl ⟨by decide, by decide⟩, _, _, rfl, rfl, _, rfl, _, _, rfl, rfl, .inr ⟨_, rfl, _, _, rfl, rfl, .inl ⟨by decide, by decide⟩, _, _, rfl, rfl, _, _, rfl, rfl, ?_⟩⟩⟩
      refine ⟨_, rfl, _, _, rfl, rfl, ⟨by decide, by decide, by decide⟩, _, _, rfl, rfl, _, _, rfl, _, rfl, .inl ⟨_, rfl, _, _, rfl, rfl, (by show (0 : Int) < 2147483489; decide), (by show 3 ≤ sizeLine; decide), fun p hp => ?_⟩⟩
      refine k p _ _ _ (fun b o e => by rw [upd_ne (ne_of_none e hp)] <;> exact e) hp (dice_made upd_same)
theorem scPull : FnScope ["_law_dice_here", "_law_total", "_law_found", "_law_one", "_law_two"] ["_law_dice_here", "_law_total"] (defScope sPull) := ⟨rfl, rfl, rfl, by decide +kernel, rfl, by decide +kernel, by decide +kernel⟩
theorem ok_pull {f : Addr} {fd : FuncData} (F : Fun K "_law_pull" "_law_pull" sPull f fd) (T : Bare mg) : FnOk P w K mg base CX0 1 f fd ["_law_dice_here", "_law_total"] spPull := by
  refine F.ok scPull (fun vs H Q E h => ?_) (fun cdv A outer s H vs Q E hr h => ?_)
  · obtain ⟨p, x, y, z, n, rfl, _⟩ := h
    rfl
  · obtain ⟨p, x, y, z, n, rfl, D, hn0, hn1, k⟩ := h
    refine ⟨_, pss_cons (ps_if (pt_cmpR op_gt (pe_ix ix_list (pv 0) pe_int (fun _ _ => rfl)) pe_int (nomark _))
        (pss_cons (ps_set (i := 2) scPull.nd rfl (Or.inl rfl) (pe_op op_mod (pe_callTy call_int1 (by rfl) T.int (by decide +kernel) (pa_cons (pe_ix ix_list (pv 0) pe_int (fun _ _ => rfl)) pa_nil)) (pv 1)))
        (pss_cons (ps_asg (pe_op op_fdiv (pe_ix ix_list (pv 0) pe_int (fun _ _ => rfl)) (pv 1)) (pg_sub (pv 0) pe_int set_list))
        (pss_one (ps_ret (pv 2))))) pss_nil)
      (pss_cons (ps_asg (pe_op op_add (pe_ix ix_list (pv 0) pe_int (fun _ _ => rfl)) pe_int) (pg_sub (pv 0) pe_int set_list))
      (pss_cons (ps_set (i := 3) scPull.nd rfl (Or.inl rfl) (pe_op op_mod (pe_callTy call_int1 (by rfl) T.int (by decide +kernel) (pa_cons (pe_op op_add (pe_ix ix_list (pv 0) pe_int (fun _ _ => rfl)) (pe_op op_mul pe_int (pe_ix ix_list (pv 0) pe_int (fun _ _ => rfl)))) pa_nil)) pe_int))
      (pss_cons (ps_set (i := 4) scPull.nd rfl (Or.inl rfl) (pe_op op_mul (pe_op op_mod (pe_callTy call_int1 (by rfl) T.int (by decide +kernel) (pa_cons (pe_op op_mul (pv 3) (pv 3)) pa_nil)) pe_int) (pv 3)))
      (pss_one (ps_ret (pe_op op_mod (pe_callTy call_int1 (by rfl) T.int (by decide +kernel) (pa_cons (pe_op op_fdiv (pe_op op_mod (pe_callTy call_int1 (by rfl) T.int (by decide +kernel) (pa_cons (pe_op op_add (pv 4) (pe_op op_mul pe_int (pe_ix ix_list (pv 0) pe_int (fun _ _ => rfl)))) pa_nil)) pe_int) pe_int) pa_nil)) (pv 1))))))), ?_⟩
    have h0 := D.at_
    refine ⟨_, rfl, p, _, _, .int x, rfl, rfl, SqL.of h0, rfl, _, _, rfl, rfl, _, rfl, ?_⟩
    refine ite2 (fun hgt => ?_) (fun _ => ?_)
    · have hx : 0 < x := of_decide_eq_true hgt
      refine ⟨_, rfl, p, _, _, .int x, rfl, rfl, SqL.of h0, rfl, .inl ⟨_, rfl, _, rfl, _, _, rfl, rfl, hn0, ?_⟩⟩
      refine ⟨_, rfl, p, _, _, .int x, rfl, rfl, SqL.of h0, rfl, _, rfl, _, _, rfl, rfl, ⟨hn0, by omega⟩, _, rfl, p, _, _, 0, rfl, rfl, h0, rfl, ?_⟩
      have hq : (0 : Int) ≤ x / n := Int.ediv_nonneg D.x0 (by omega)
      have hq2 : x / n ≤ x := Int.ediv_le_self n D.x0
      exact ⟨_, rfl, k _ _ z _ (Int.emod_nonneg _ (by omega)) (Int.emod_lt_of_pos _ hn0) ⟨upd_same, hq, Nat.lt_of_le_of_lt (by omega) D.x1, D.y0, D.y1, D.z0⟩ (by omega) fun b o hb e => by rw [upd_ne hb] <;> exact e⟩
    · refine ⟨_, rfl, p, _, _, .int z, rfl, rfl, SqL.of h0, rfl, _, _, rfl, rfl, _, rfl, p, _, _, 2, rfl, rfl, h0, rfl, ?_⟩
      have h1 : (upd H p (.lst [.int x, .int y, .int (z + 1)])) p = some (.lst [.int x, .int y, .int (z + 1)]) := upd_same
      refine ⟨_, rfl, p, _, _, .int y, rfl, rfl, SqL.of h1, rfl, _, rfl, p, _, _, .int (z + 1), rfl, rfl, SqL.of h1, rfl, _, _, rfl, rfl, .inl ⟨by decide, by decide⟩, _, _, rfl, rfl, .inl ⟨_, rfl, _, _, rfl, rfl, (by show (0 : Int) < 2305843009213693951; decide), ?_⟩⟩
      have a1 := Int.emod_nonneg (y + 1000159 * (z + 1)) (show (2305843009213693951 : Int) ≠ 0 by decide)
      have a2 := Int.emod_lt_of_pos (y + 1000159 * (z + 1)) (show (0 : Int) < 2305843009213693951 by decide)
      generalize (y + 1000159 * (z + 1)) % 2305843009213693951 = one at a1 a2 ⊢
      refine ⟨_, rfl, _, rfl, _, _, rfl, rfl, .inl ⟨by omega, by omega⟩, .inl ⟨_, rfl, _, _, rfl, rfl, (by show (0 : Int) < 2305843009213693907; decide), _, rfl, _, _, rfl, rfl, .inr ⟨by omega, by omega⟩, ?_⟩⟩
      refine ⟨_, rfl, _, rfl, p, _, _, .int (z + 1), rfl, rfl, SqL.of h1, rfl, _, _, rfl, rfl, .inl ⟨by decide, by decide⟩, _, _, rfl, rfl, .inl ⟨_, rfl, _, _, rfl, rfl, (by show (0 : Int) < 2305843009213693921; decide), _, _, rfl, rfl, ⟨by decide, by decide⟩, .inl ⟨_, rfl, _, rfl, _, _, rfl, rfl, hn0, ?_⟩⟩⟩
      exact k _ x (z + 1) _ (Int.emod_nonneg _ (by omega)) (Int.emod_lt_of_pos _ hn0) ⟨h1, D.x0, D.x1, D.y0, D.y1, by have := D.z0; omega⟩ (Int.le_refl _) fun b o hb e => by rw [upd_ne hb] <;> exact e
theorem scPick : FnScope ["_law_dice_here", "_law_items"] ["_law_dice_here", "_law_items"] (defScope sPick) := ⟨rfl, rfl, rfl, by decide +kernel, rfl, by decide +kernel, by decide +kernel⟩
theorem ok_pick {f fU : Addr} {fd fdU : FuncData} (F : Fun K "_law_pick" "_law_pick" sPick f fd) (T : Bare mg) (FU : Fun K "_law_pull" "_law_pull" sPull fU fdU) (bU : Binds K fdU ["_law_dice_here", "_law_total"] []) (mU : mg "_law_pull" = some (.ref fU)) : FnOk P w K mg base CX0 2 f fd ["_law_dice_here", "_law_items"] spPick := by
  have GU : FnOk P w K mg base CX0 1 fU fdU ["_law_dice_here", "_law_total"] spPull := ok_pull FU T
  refine F.ok scPick (fun vs H Q E h => ?_) (fun cdv A outer s H vs Q E hr h => ?_)
  · obtain ⟨p, q, x, y, z, xs, rfl, _⟩ := h
    rfl
  · obtain ⟨p, q, x, y, z, xs, rfl, D, hpq, hq, h0, h1, k⟩ := h
    refine ⟨_, pss_one (ps_ret (pe_ix ix_list (pv 1) (pe_call GU hr (by rfl) mU FU.kp bU .nil pass0 (pa_cons (pv 0) (pa_cons (pe_callB call_len_seq (by rfl) T.len PySem.boot_len (pa_cons (pv 1) pa_nil)) pa_nil))) (fun _ _ => rfl))), ?_⟩
    refine ⟨_, rfl, _, rfl, _, rfl, q, _, rfl, .inl (SqL.of hq), p, x, y, z, _, rfl, D, by omega, by omega, fun r x' z' H' r0 r1 D' hz hk => ?_⟩
    obtain ⟨j, rfl⟩ : ∃ j : Nat, r = (j : Int) := ⟨r.toNat, by omega⟩
    have hj : j < xs.length := by omega
    exact ⟨q, xs, _, xs[j], rfl, rfl, SqL.of (hk q _ hpq.symm hq), atI_nat (List.getElem?_eq_getElem hj), k j _ x' z' H' (List.getElem?_eq_getElem hj) D' hz hk⟩
theorem Dice.same {H H' : Hp} {p : Addr} {x y z : Int} (D : Dice H p x y z) (s : Same H H') : Dice H' p x y z := ⟨s _ _ D.at_, D.x0, D.x1, D.y0, D.y1, D.z0⟩
theorem Dice.upd {H : Hp} {p q : Addr} {x y z : Int} {o : HO} (D : Dice H p x y z) (h : H q = none) : Dice (upd H q o) p x y z := ⟨by rw [upd_ne (ne_of_none D.at_ h)] <;> exact D.at_, D.x0, D.x1, D.y0, D.y1, D.z0⟩
end
end M46

/-! The kinds drawn. -/
namespace M46
open PySem PySem.Spec PyProof.Rows L2 R0 K1

/-- the kind drawn at place i -/
def Wn (i n : Nat) (k : S) : Prop := ∃ (c : Nat) (r : List Nat), k.cps.toList = c :: r ∧ 97 + 3 * i ≤ c ∧ c < 100 + 3 * i ∧ c ≤ 122 ∧ r.length ≤ n ∧ ∀ d ∈ r, low d = true
def Kinds (ks : List S) : Prop := ks.length ≤ 5 ∧ ∀ i k, ks[i]? = some k → Wn i 2 k
theorem wn_nm {i n : Nat} {k : S} (h : Wn i n k) (hn : n ≤ 2) : nm k = true ∧ k.length ≤ 3 := by
  obtain ⟨c, r, e, h1, h2, h3, h4, h5⟩ := h
  have hl : k.length = r.length + 1 := by
    show k.cps.size = _
    rw [← Array.length_toList, e, List.length_cons]
  refine ⟨?_, by omega⟩
  unfold nm
  rw [decide_eq_true (show 1 ≤ k.length by omega), decide_eq_true (show k.length ≤ 8 by omega), e, List.all_cons]
  have hc : low c = true := by unfold low; simp; omega
  rw [hc]
  simpa using h5
theorem kinds_nodup : ∀ {ks : List S}, (∀ i k, ks[i]? = some k → Wn i 2 k) → ks.Nodup := by
  intro ks h
  show ks.Pairwise (· ≠ ·)
  rw [List.pairwise_iff_getElem]
  intro i j hi hj hij e
  obtain ⟨c, r, e1, a1, a2, _⟩ := h i ks[i] (List.getElem?_eq_getElem hi)
  obtain ⟨c', r', e2, b1, b2, _⟩ := h j ks[j] (List.getElem?_eq_getElem hj)
  rw [e, e2] at e1
  injection e1 with e3 _
  omega
def spNames : Sp := fun vs H Q _ => ∃ (p : Addr) (x y z : Int) (m : Nat), vs = [.ref p, .int (m : Int)] ∧ Dice H p x y z ∧ m ≤ 5 ∧
  ∀ (q : Addr) (ks : List S) (x' z' : Int) (H' : Hp), Dice H' p x' y z' → (∀ b o, b ≠ p → H b = some o → H' b = some o) → H q = none → H' q = some (.lst (ks.map V.str)) → ks.length = m → Kinds ks → Q (.ref q) H'
theorem alpha_at {i : Nat} (h : i < 26) : alpha.cps.toList[i]? = some (97 + i) := by
  rw [alpha_list, List.getElem?_map, List.getElem?_range h]
  rfl
theorem alpha_len : alpha.length = 26 := by decide +kernel
theorem five_at : ∀ (j : Nat) (v : V), ([.int 0, .int 0, .int 0, .int 1, .int 2] : List V)[j]? = some v → ∃ m : Nat, v = .int (m : Int) ∧ m ≤ 2 := fun j v hv => match j, hv with
  | 0, hv => by cases hv; exact ⟨0, rfl, by decide⟩
  | 1, hv => by cases hv; exact ⟨0, rfl, by decide⟩
  | 2, hv => by cases hv; exact ⟨0, rfl, by decide⟩
  | 3, hv => by cases hv; exact ⟨1, rfl, by decide⟩
  | 4, hv => by cases hv; exact ⟨2, rfl, by decide⟩
  | j + 5, hv => by simp at hv
abbrev nNames : List S := ["_law_dice_here", "_law_total", "_law_alphabet", "_law_found", "_law_at", "_law_word_here", "_law_turn"]
section
variable {P : Program} {w : World} {K : PySem.W.Frag} {mg : PySem.Str → Option Value} {base : Heap}
theorem scNames : FnScope nNames ["_law_dice_here", "_law_total"] (defScope sNames) := ⟨rfl, rfl, rfl, by decide +kernel, rfl, by decide +kernel, by decide +kernel⟩
theorem ok_names {f fU : Addr} {fd fdU : FuncData} (F : Fun K "_law_names" "_law_names" sNames f fd) (T : Bare mg) (FU : Fun K "_law_pull" "_law_pull" sPull fU fdU) (bU : Binds K fdU ["_law_dice_here", "_law_total"] []) (mU : mg "_law_pull" = some (.ref fU)) : FnOk P w K mg base CX0 2 f fd ["_law_dice_here", "_law_total"] spNames := by
  have GU : FnOk P w K mg base CX0 1 fU fdU ["_law_dice_here", "_law_total"] spPull := ok_pull FU T
  refine F.ok scNames (fun vs H Q E h => ?_) (fun cdv A outer s H vs Q E hr h => ?_)
  · obtain ⟨p, x, y, z, m, rfl, _⟩ := h
    rfl
  · obtain ⟨p, x, y, z, m, rfl, D, hm, q⟩ := h
    have hr1 : Room 1 _ := hr
    refine ⟨_, (pss_cons (ps_par (i := 2) (j := 3) rfl scNames.nd rfl rfl (by decide) rfl rfl (pa_cons pe_str (pa_cons (pe_lst pa_nil) pa_nil)) (by rfl))
      (pss_cons (ps_for PassesOwn.never rfl (pi_range1 (by rfl) T.rng (pa_cons (pv 1) pa_nil)) (pg_name (i := 4) scNames.nd rfl (Or.inl rfl)) (pss_cons (ps_set (i := 5) scNames.nd rfl (Or.inl rfl) (pe_ix ix_str (pv 2) (pe_op op_add (pe_op op_mul pe_int (pv 4)) (pe_call GU hr1 (by rfl) mU FU.kp bU .nil pass0 (pa_cons (pv 0) (pa_cons pe_int pa_nil)))) (fun _ _ => rfl)))
      (pss_cons (ps_for PassesOwn.never rfl (pi_range1 (by rfl) T.rng (pa_cons (pe_ix ix_list (pe_lst (pa_cons pe_int (pa_cons pe_int (pa_cons pe_int (pa_cons pe_int (pa_cons pe_int pa_nil)))))) (pe_call GU hr1 (by rfl) mU FU.kp bU .nil pass0 (pa_cons (pv 0) (pa_cons pe_int pa_nil))) (fun _ _ => rfl)) pa_nil)) (pg_name (i := 6) scNames.nd rfl (Or.inl rfl)) (pss_one (ps_set (i := 5) scNames.nd rfl (Or.inl rfl) (pe_op op_add_str (pv 5) (pe_ix ix_str (pv 2) (pe_call GU hr1 (by rfl) mU FU.kp bU .nil pass0 (pa_cons (pv 0) (pa_cons pe_int pa_nil))) (fun _ _ => rfl))))))
      (pss_one (ps_expr (pe_bm PySem.F.plainAttrs_list PySem.F.slot_list_append PySem.F.type_list_append mt_append (pv 3) (pa_cons (pv 5) pa_nil)))))))
      (pss_one (ps_ret (pv 3))))), ?_⟩
    refine ⟨Nat.zero_le _, fun l hl => ⟨_, _, rfl, ?_⟩⟩
    have npl : p ≠ l := ne_of_none D.at_ hl
    refine ⟨_, rfl, (m : Int), rfl, by omega, by omega, for_range (n := m) (fun i σ G => ∃ (ks : List S) (x' z' : Int) (v4 v5 v6 : Option V), σ = [some (.ref p), some (.int (m : Int)), some (.str alpha), some (.ref l), v4, v5, v6] ∧ G l = some (.lst (ks.map V.str)) ∧ ks.length = i ∧ (∀ j k, ks[j]? = some k → Wn j 2 k) ∧ Dice G p x' y z' ∧ ∀ b o, b ≠ p → H b = some o → G b = some o)
      ⟨[], x, z, none, none, none, rfl, upd_same, rfl, fun j k e => by simp at e, D.upd hl, fun b o hb e => by rw [upd_ne (ne_of_none e hl)]; exact e⟩ ?_ ?_⟩
    · rintro i σ G hi ⟨ks, x1, z1, v4, v5, v6, rfl, hG, hks, hW, D1, s1⟩
      refine ⟨_, rfl, _, rfl, _, _, rfl, rfl, .inl ⟨by decide, by decide⟩, _, rfl, p, x1, y, z1, 3, rfl, D1, by decide, by decide, fun r x2 z2 G2 r0 r1 D2 hz2 s2 => ?_⟩
      obtain ⟨rn, rfl⟩ : ∃ rn : Nat, r = (rn : Int) := ⟨r.toNat, by omega⟩
      have ei : (3 * (0 + (i : Int)) + (rn : Int) : Int) = ((3 * i + rn : Nat) : Int) := by omega
      have hal := alpha_len
      refine ⟨_, _, rfl, rfl, alpha, _, 97 + (3 * i + rn), rfl, rfl, by rw [hal, sizeLine_eq]; decide, (by rw [ei]; exact atI_nat (alpha_at (by omega))), ?_⟩
      have hG2 := s2 _ _ npl.symm hG
      refine ⟨by rw [sizeLine_eq]; decide, fun u hu => ?_⟩
      have npu : p ≠ u := ne_of_none D2.at_ hu
      have nlu : l ≠ u := ne_of_none hG2 hu
      refine ⟨_, rfl, p, x2, y, z2, 5, rfl, D2.upd hu, by decide, by decide, fun r2 x3 z3 G3 a0 a1 D3 hz3 s3 => ?_⟩
      obtain ⟨an, rfl⟩ : ∃ an : Nat, r2 = (an : Int) := ⟨r2.toNat, by omega⟩
      have hu3 := s3 u _ npu.symm upd_same
      obtain ⟨v, hv⟩ : ∃ v, ([.int 0, .int 0, .int 0, .int 1, .int 2] : List V)[an]? = some v := ⟨_, List.getElem?_eq_getElem (by show an < 5; omega)⟩
      obtain ⟨m2, rfl, hm2⟩ := five_at an v hv
      refine ⟨u, _, _, .int (m2 : Int), rfl, rfl, SqL.of hu3, atI_nat hv, (m2 : Int), rfl, by omega, by omega, ?_⟩
      have sG : ∀ b o, b ≠ p → H b = some o → G3 b = some o := fun b o hb e => s3 b o hb (by rw [upd_ne (ne_of_none (s2 b o hb (s1 b o hb e)) hu)]; exact s2 b o hb (s1 b o hb e))
      have hG3 : G3 l = some (.lst (ks.map V.str)) := s3 l _ npl.symm (by rw [upd_ne nlu]; exact hG2)
      refine for_range (n := m2) (fun j σ G => ∃ (k : S) (x' z' : Int) (v6 : Option V), σ = [some (.ref p), some (.int (m : Int)), some (.str alpha), some (.ref l), some (.int (0 + (i : Int))), some (.str k), v6] ∧ Wn i j k ∧ G l = some (.lst (ks.map V.str)) ∧ Dice G p x' y z' ∧ ∀ b o, b ≠ p → H b = some o → G b = some o)
        ⟨⟨#[97 + (3 * i + rn)]⟩, x3, z3, v6, rfl, ⟨_, [], rfl, by omega, by omega, by omega, Nat.zero_le _, fun d h => by cases h⟩, hG3, D3, sG⟩ ?_ ?_
      · rintro j σ G4 hj ⟨k, x4, z4, w6, rfl, ⟨c, rs, e, c1, c2, c3, c4, c5⟩, hG4, D4, s4⟩
        have hkl : k.length = rs.length + 1 := by
          show k.cps.size = _
          rw [← Array.length_toList, e, List.length_cons]
        refine ⟨_, rfl, _, rfl, _, rfl, p, x4, y, z4, 26, rfl, D4, by decide, by decide, fun r4 x5 z5 G5 d0 d1 D5 hz5 s5 => ?_⟩
        obtain ⟨dn, rfl⟩ : ∃ dn : Nat, r4 = (dn : Int) := ⟨r4.toNat, by omega⟩
        refine ⟨alpha, _, 97 + dn, rfl, rfl, by rw [hal, sizeLine_eq]; decide, atI_nat (alpha_at (by omega)), _, _, rfl, rfl, ?_, ?_⟩
        · rw [hkl, sizeLine_eq]
          show rs.length + 1 + 1 ≤ _
          omega
        · refine ⟨k ++ ⟨#[97 + dn]⟩, x5, z5, _, rfl, ⟨c, rs ++ [97 + dn], ?_, c1, c2, c3, by rw [List.length_append, List.length_singleton]; omega, fun d hd => ?_⟩, s5 _ _ npl.symm hG4, D5, fun b o hb eb => s5 b o hb (s4 b o hb eb)⟩
          · show (k.cps ++ #[97 + dn]).toList = _
            rw [Array.toList_append, e]
            rfl
          · rcases List.mem_append.mp hd with hd | hd
            · exact c5 d hd
            · rw [List.mem_singleton.mp hd]
              unfold low
              simp
              omega
      · rintro σ G4 ⟨k, x4, z4, w6, rfl, hW4, hG4, D4, s4⟩
        have hks5 : ks.length ≤ 5 := by omega
        refine ⟨_, rfl, .inl ⟨rfl, _, SqL.of hG4⟩, _, rfl, l, _, _, rfl, rfl, hG4, by rw [List.length_map, sizeLine_eq]; omega, ?_⟩
        refine ⟨ks ++ [k], x4, z4, _, _, _, rfl, upd_same.trans (by rw [List.map_append]; rfl), by rw [List.length_append, List.length_singleton, hks], fun j k' hj => ?_, ⟨by rw [upd_ne npl]; exact D4.at_, D4.x0, D4.x1, D4.y0, D4.y1, D4.z0⟩, fun b o hb eb => by rw [upd_ne (ne_of_none eb hl)]; exact s4 b o hb eb⟩
        by_cases hjl : j < ks.length
        · rw [List.getElem?_append_left hjl] at hj
          exact hW j k' hj
        · rw [List.getElem?_append_right (by omega)] at hj
          have hj0 : j - ks.length = 0 := by
            cases h : j - ks.length with
            | zero => rfl
            | succ n => rw [h] at hj; simp at hj
          rw [hj0] at hj
          obtain rfl : k = k' := by simpa using hj
          have : j = i := by omega
          subst this
          obtain ⟨c, rs, e, c1, c2, c3, c4, c5⟩ := hW4
          exact ⟨c, rs, e, c1, c2, c3, by omega, c5⟩
    · rintro σ G ⟨ks, x1, z1, v4, v5, v6, rfl, hG, hks, hW, D1, s1⟩
      exact ⟨_, rfl, q l ks x1 z1 G D1 s1 hl hG hks ⟨by omega, hW⟩⟩
end
end M46

/-! The words drawn. -/
namespace M46
open PySem PySem.Spec PyProof.Rows L2 R0 K1

/-- a drawn plan: words of some of the kinds, and of the others -/
structure Plan (ks : List S) (pl : List (S × S)) : Prop where
  keys : ∀ k ∈ pl.map (·.1), k ∈ ks ∨ k = oth
  nd : (pl.map (·.1)).Nodup
  vs : ∀ v ∈ pl.map (·.2), v ∈ W3
  has : oth ∈ pl.map (·.1)
  len : pl.length ≤ 8
def spWords : Sp := fun vs H Q _ => ∃ (p q : Addr) (x y z : Int) (ks : List S), vs = [.ref p, .ref q] ∧ Dice H p x y z ∧ H q = some (.lst (ks.map V.str)) ∧ Kinds ks ∧
  ∀ (d : Addr) (pl : List (S × S)) (x' z' : Int) (H' : Hp), Dice H' p x' y z' → (∀ b o, b ≠ p → H b = some o → H' b = some o) → H d = none → H' d = some (.dK (wd pl)) → Plan ks pl → Q (.ref d) H'
theorem kinds_at {ks : List S} (h : Kinds ks) {k : S} (hk : k ∈ ks) : nm k = true ∧ k.length ≤ 3 := by
  obtain ⟨i, hi, e⟩ := List.mem_iff_getElem.mp hk
  exact wn_nm (h.2 i k (by rw [List.getElem?_eq_getElem hi, e])) (Nat.le_refl _)
theorem kinds_oth {ks : List S} (h : Kinds ks) : oth ∉ ks := fun hk => by
  have := (kinds_at h hk).2
  exact absurd this (by decide +kernel)
theorem w3_mem {j : Nat} {v : V} (h : ([.str w0, .str w1, .str w2] : List V)[j]? = some v) : ∃ x : S, v = .str x ∧ x ∈ W3 := match j, h with
  | 0, h => by cases h; exact ⟨w0, rfl, by simp [W3]⟩
  | 1, h => by cases h; exact ⟨w1, rfl, by simp [W3]⟩
  | 2, h => by cases h; exact ⟨w2, rfl, by simp [W3]⟩
  | j + 3, h => by simp at h
abbrev nWords : List S := ["_law_dice_here", "_law_kinds", "_law_words_here", "_law_found", "_law_kind"]
section
variable {P : Program} {w : World} {K : PySem.W.Frag} {mg : PySem.Str → Option Value} {base : Heap}
theorem scWords : FnScope nWords ["_law_dice_here", "_law_kinds"] (defScope sWords) := ⟨rfl, rfl, rfl, by decide +kernel, rfl, by decide +kernel, by decide +kernel⟩
theorem ok_words {f fU fP : Addr} {fd fdU fdP : FuncData} (F : Fun K "_law_words" "_law_words" sWords f fd) (T : Bare mg) (FU : Fun K "_law_pull" "_law_pull" sPull fU fdU) (bU : Binds K fdU ["_law_dice_here", "_law_total"] []) (mU : mg "_law_pull" = some (.ref fU))
    (FP : Fun K "_law_pick" "_law_pick" sPick fP fdP) (bP : Binds K fdP ["_law_dice_here", "_law_items"] []) (mP : mg "_law_pick" = some (.ref fP)) : FnOk P w K mg base CX0 3 f fd ["_law_dice_here", "_law_kinds"] spWords := by
  have GU : FnOk P w K mg base CX0 1 fU fdU ["_law_dice_here", "_law_total"] spPull := ok_pull FU T
  have GP : FnOk P w K mg base CX0 2 fP fdP ["_law_dice_here", "_law_items"] spPick := ok_pick FP T FU bU mU
  refine F.ok scWords (fun vs H Q E h => ?_) (fun cdv A outer s H vs Q E hr h => ?_)
  · obtain ⟨p, q, x, y, z, ks, rfl, _⟩ := h
    rfl
  · obtain ⟨p, q, x, y, z, ks, rfl, D, hq, hk, k⟩ := h
    have hr1 : Room 1 _ := hr.mono (by decide)
    have hr2 : Room 2 _ := hr
    have hu := hu_of hr
    have hsz : (1000 : Nat) ≤ sizeLine := by rw [sizeLine_eq]; decide
    refine ⟨_, (pss_cons (ps_par (i := 2) (j := 3) rfl scWords.nd rfl rfl (by decide) rfl rfl (pa_cons (pe_lst (pa_cons pe_str (pa_cons pe_str (pa_cons pe_str pa_nil)))) (pa_cons pe_dnewK pa_nil)) (by rfl))
      (pss_cons (ps_for PassesOwn.never rfl (pi_list (pv 1)) (pg_name (i := 4) scWords.nd rfl (Or.inl rfl)) (pss_one (ps_if (PW.pt (pw_and (pt_cmpR op_ne (pv 4) pe_str (nomark _)) (pw_and1 (pt_cmpR op_gt (pe_call GU hr1 (by rfl) mU FU.kp bU .nil pass0 (pa_cons (pv 0) (pa_cons pe_int pa_nil))) pe_int (nomark _))))) (pss_one (ps_dput hu (pv 3) (pv 4) (pe_call GP hr2 (by rfl) mP FP.kp bP .nil pass0 (pa_cons (pv 0) (pa_cons (pv 2) pa_nil))) rfl)) pss_nil)))
      (pss_cons (ps_dput hu (pv 3) pe_str (pe_call GP hr2 (by rfl) mP FP.kp bP .nil pass0 (pa_cons (pv 0) (pa_cons (pv 2) pa_nil))) rfl)
      (pss_one (ps_ret (pv 3)))))), ?_⟩
    refine ⟨by show 3 ≤ sizeLine; omega, fun l hl d hd => ⟨_, _, rfl, ?_⟩⟩
    have hl1 : (upd H l (.lst [.str w0, .str w1, .str w2])) l = some (.lst [.str w0, .str w1, .str w2]) := upd_same
    have nld : l ≠ d := ne_of_none hl1 hd
    have hd0 : H d = none := by rw [upd_ne nld.symm] at hd; exact hd
    have npl : p ≠ l := ne_of_none D.at_ hl
    have npd : p ≠ d := ne_of_none D.at_ hd0
    have nqp : q ≠ p := ne_of hq D.at_ (by
      intro e
      injection e with e
      cases ks with
      | nil => cases e
      | cons a ks => cases e)
    have s0 : Same H (upd (upd H l (.lst [.str w0, .str w1, .str w2])) d (.dK [])) := (same_upd hl).trans (same_upd hd)
    refine ⟨_, rfl, q, rfl, ⟨_, SqL.of (s0 _ _ hq)⟩, for_list (K := K) (a := q) (xs := ks.map V.str) (fun i σ G => ∃ (ps : List (S × S)) (x' z' : Int) (v4 : Option V), σ = [some (.ref p), some (.ref q), some (.ref l), some (.ref d), v4] ∧ G d = some (.dK (wd ps)) ∧ (∀ k ∈ ps.map (·.1), k ∈ ks) ∧ (ps.map (·.1)).Nodup ∧ (∀ v ∈ ps.map (·.2), v ∈ W3) ∧ ps.length ≤ i ∧ G l = some (.lst [.str w0, .str w1, .str w2]) ∧ Dice G p x' y z' ∧ ∀ b o, b ≠ p → H b = some o → G b = some o)
      ⟨[], x, z, none, rfl, upd_same, fun k h => (by cases h), .nil, fun k h => (by cases h), Nat.le_refl _, by rw [upd_ne nld]; exact hl1, (D.upd hl).upd hd, fun b o _ e => s0 b o e⟩ (fun i σ G _ ⟨ps, x', z', v4, e1, e2, e3, e4, e5, e6, e7, e8, e9⟩ => SqL.of (e9 q _ nqp hq)) ?_ ?_⟩
    · rintro i v σ G hi ⟨ps, x1, z1, v4, rfl, hG, h1, h2, h3, h4, hGl, D1, s1⟩
      obtain ⟨kd, hkd, rfl⟩ : ∃ kd, kd ∈ ks ∧ v = .str kd := by
        rw [List.getElem?_map] at hi
        cases e : ks[i]? with
        | none => rw [e] at hi; cases hi
        | some k => rw [e] at hi; exact ⟨k, List.mem_of_getElem? e, (Option.some.inj hi).symm⟩
      have hi5 : i < 5 := by
        have := (List.getElem?_eq_some_iff.mp hi).1
        rw [List.length_map] at this
        have := hk.1
        omega
      have hne : decide (V.str kd = V.str "other") = false := decide_eq_false fun e => kinds_oth hk (by rw [show oth = kd from (V.str.inj e).symm]; exact hkd)
      refine ⟨_, rfl, rfl, _, rfl, ?_⟩
      rw [hne]
      refine ⟨_, rfl, p, x1, y, z1, 4, rfl, D1, by decide, by decide, fun r x2 z2 G2 r0 r1 D2 hz2 s2 => ?_⟩
      have sG2 : ∀ b o, b ≠ p → H b = some o → G2 b = some o := fun b o hb e => s2 b o hb (s1 b o hb e)
      have hG2 := s2 _ _ npd.symm hG
      have hGl2 := s2 _ _ npl.symm hGl
      refine ⟨_, _, rfl, rfl, _, rfl, ?_⟩
      refine ite2 (fun _ => ?_) (fun _ => ?_)
      · refine ⟨_, rfl, _, rfl, p, l, x2, y, z2, _, rfl, D2, npl, hGl2, by show 0 < 3; decide, by show 3 < 1000; decide, fun j v x3 z3 G3 hv D3 hz3 s3 => ?_⟩
        obtain ⟨wv, rfl, hwv⟩ := w3_mem hv
        have hG3 := s3 _ _ npd.symm hG2
        refine ⟨_, rfl, _, rfl, d, _, rfl, DPut.k (k := Sum.inr kd) hG3 (by rw [wd_len]; omega), ?_⟩
        rw [put_wd]
        refine ⟨putS ps kd wv, x3, z3, _, rfl, upd_same, fun k' hk' => ?_, nodup_put h2, vals_put h3 hwv, by have := len_put (k := kd) (v := wv) (ws := ps); omega, ?_, ?_, fun b o hb e => ?_⟩
        · rcases mem_put.mp hk' with z | z
          · exact h1 k' z
          · rw [z]; exact hkd
        · rw [upd_ne nld]; exact s3 _ _ npl.symm hGl2
        · exact ⟨by rw [upd_ne npd]; exact D3.at_, D3.x0, D3.x1, D3.y0, D3.y1, D3.z0⟩
        · rw [upd_ne (ne_of_none e hd0)]
          exact s3 b o hb (sG2 b o hb e)
      · exact ⟨ps, x2, z2, _, rfl, hG2, h1, h2, h3, by omega, hGl2, D2, sG2⟩
    · rintro σ G ⟨ps, x1, z1, v4, rfl, hG, h1, h2, h3, h4, hGl, D1, s1⟩
      rw [List.length_map] at h4
      have hk5 := hk.1
      refine ⟨_, rfl, _, rfl, p, l, x1, y, z1, _, rfl, D1, npl, hGl, by show 0 < 3; decide, by show 3 < 1000; decide, fun j v x3 z3 G3 hv D3 hz3 s3 => ?_⟩
      obtain ⟨wv, rfl, hwv⟩ := w3_mem hv
      have hG3 := s3 _ _ npd.symm hG
      refine ⟨_, rfl, d, _, rfl, DPut.k (k := Sum.inr oth) hG3 (by rw [wd_len]; omega), ?_⟩
      rw [put_wd]
      refine ⟨_, rfl, k d (putS ps oth wv) x3 z3 _ ⟨by rw [upd_ne npd]; exact D3.at_, D3.x0, D3.x1, D3.y0, D3.y1, D3.z0⟩ (fun b o hb e => ?_) hd0 upd_same ⟨fun k' hk' => ?_, nodup_put h2, vals_put h3 hwv, mem_put.mpr (.inr rfl), by have := len_put (k := oth) (v := wv) (ws := ps); omega⟩⟩
      · rw [upd_ne (ne_of_none e hd0)]
        exact s3 b o hb (s1 b o hb e)
      · rcases mem_put.mp hk' with z | z
        · exact .inl (h1 k' z)
        · exact .inr z
end
end M46

/-! o[i], o an instance of an own class with __getitem__, i no slice. -/
namespace R0
open PySem PySem.Spec PyProof.Rows L2

section
variable {X : Cx} {CX : CXT} {n : Nat} {C f : Addr} {fd : FuncData} {ps : List PySem.Str} {sp : Sp} {E : XK} {a b : Expr} {ta tb : TE} {pos : Pos}
def rIxO (C : Addr) (sp : Sp) (E : XK) : R2 := fun x y H Q => ∃ a dx fs, x = .ref a ∧ H a = some (.ins C dx fs) ∧ sp [.ref a, y] H Q E
theorem pe_ixO (m : OwnM X CX n C "__getitem__" f fd ps sp E) (hf : PySem.W.fnIn X.K f = true) (hr : Room (n + 1) X.A) (ha : PE X a ta) (hb : PE X b tb)
    (hsl : ∀ o i, subscripted b true o i = runValue (.builtin "lifetime.subscript" ⟨[o, i], []⟩) := by intro _ _; rfl) : PE X (.Subscript a b pos) (tOp (rIxO C sp E) ta tb) := by
  refine ⟨fun pins s σ H Q I h => ?_⟩
  refine Subscript_ (binT ha hb I h fun v u s2 x y H2 I2 rx ry q => ?_)
  obtain ⟨a, dx, fs, rfl, hx, q⟩ := q
  obtain rfl : v = Value.ref a := rx
  obtain ⟨od, J⟩ := ins_inst I2 hx
  obtain ⟨mm, hF⟩ := I2.fr
  exact PySem.W.sub_K hF I2.ok.mod.kin J m.s hf m.fn (run_below ⟨hr.in1, rfl⟩ m.F m.b m.x I2 (.cons (vr a) (.cons ry .nil)) q) (hsl _ _)
end
end R0

/-! o not in [..], o an instance of an own class with __eq__, among values of built-in kinds. -/
namespace R0
open PySem PySem.Spec PyProof.Rows L2

section
variable {prog : Program} {w : World} {A : Around} {E : Value → Shared → Prop} {s : Shared} {K : PySem.W.Frag} {a C : Addr} {ox : Obj} {od : Option Obj}
theorem not_inst {M : Model} {T : String} {Q : Bool → Shared → Prop} (X : K.In s.heap) (J : PySem.W.InstAt s.heap a ox C od) (hm : PySem.W.subIn K (.ref C) (.type T) = some false) (q : Q false s) : wpAny M A (isInstance (.ref a) (.type T)) Q E s := by
  unfold isInstance
  exact wpAny_bind (J.type.here ((PySem.W.looks_subIn X hm).here q))
/-- a built-in's body that declines -/
abbrev DeclB (prog : Program) (w : World) (B : Builtin) (u : Value) (a : Addr) (s : Shared) : Prop := ∀ (A : Around) (E : Value → Shared → Prop) (R : PySem.Fin → Shared → Prop), (∀ tk, R (.done (.ret .notImplemented)) { s with toks := tk }) → wpAny (model prog w) A (B ⟨[u, .ref a], []⟩) R E s
theorem decl_str {x : PySem.Str} {t : Tok} (J : PySem.W.InstAt s.heap a ox C od) (hp : ox.data = .plain) : DeclB prog w Builtin.«str.__eq__» (.str x t) a s := by
  intro A E R h
  unfold Builtin.«str.__eq__»
  refine wpAny_bind (m := Builtin.Str.strSlot "__eq__" 1 ⟨[.str x t, .ref a], []⟩) (wpAny_of_eq (a := (.str x t, x, [.ref a])) (by first | rfl | kernel_rfl) ?_)
  refine wpAny_bind (m := asStr? (.ref a)) ?_
  unfold asStr?
  refine wpAny_bind (wpAny_load J.at_ ?_)
  simp only [hp]
  refine wpAny_pure (wpAny_bind (wpAny_rule ?_))
  exact wpAny_pure (h s.toks)
theorem decl_int {i : Int} {t : Tok} (J : PySem.W.InstAt s.heap a ox C od) (hp : ox.data = .plain) : DeclB prog w Builtin.«int.__eq__» (.int i t) a s := by
  intro A E R h
  unfold Builtin.«int.__eq__»
  refine wpAny_bind (m := slotArgs "__eq__" 1 ⟨[.int i t, .ref a], []⟩) (wpAny_of_eq (a := (.int i t, [.ref a])) (by first | rfl | kernel_rfl) ?_)
  refine wpAny_bind (m := Builtin.Int.intOfSelf (.int i t)) (wpAny_of_eq (a := i) (by first | rfl | kernel_rfl) ?_)
  refine wpAny_bind (m := asInt? (.ref a)) ?_
  unfold asInt?
  refine wpAny_bind (wpAny_load J.at_ ?_)
  simp only [hp]
  refine wpAny_pure (wpAny_bind (wpAny_rule ?_))
  exact wpAny_pure (h s.toks)
theorem decl_tup {t : Addr} (X : K.In s.heap) (J : PySem.W.InstAt s.heap a ox C od) (hm : PySem.W.subIn K (.ref C) (.type "tuple") = some false) : DeclB prog w Builtin.«tuple.__eq__» (.ref t) a s := by
  intro A E R h
  unfold Builtin.«tuple.__eq__»
  refine wpAny_bind (m := slotArgs "__eq__" 1 ⟨[.ref t, .ref a], []⟩) (wpAny_of_eq (a := (.ref t, [.ref a])) (by first | rfl | kernel_rfl) ?_)
  refine wpAny_bind (m := isInstance (.ref a) (.type "tuple")) (not_inst X J hm ?_)
  exact wpAny_bind (wpAny_pure (wpAny_pure (h s.toks)))
theorem decl_dict {d : Addr} (X : K.In s.heap) (J : PySem.W.InstAt s.heap a ox C od) (hm : PySem.W.subIn K (.ref C) (.type "dict") = some false) (hT : s.TypeIs (.ref d) "dict") : DeclB prog w Builtin.«dict.__eq__» (.ref d) a s := by
  intro A E R h
  unfold Builtin.«dict.__eq__»
  refine wpAny_bind (m := Builtin.Dict.dictSlotArgs "__eq__" ⟨[.ref d, .ref a], []⟩) ?_
  unfold Builtin.Dict.dictSlotArgs
  refine wpAny_bind (wpAny_notOrdered_dict hT ?_)
  refine wpAny_bind (m := slotArgs "__eq__" 1 ⟨[.ref d, .ref a], []⟩) (wpAny_of_eq (a := (.ref d, [.ref a])) (by first | rfl | kernel_rfl) ?_)
  refine wpAny_pure ?_
  refine wpAny_bind (m := isInstance (.ref a) (.type "dict")) (not_inst X J hm ?_)
  exact wpAny_bind (wpAny_rule (wpAny_bind (wpAny_pure (wpAny_pure (h s.toks)))))
theorem decl_none : DeclB prog w Builtin.«NoneType.__eq__» .none a s := by
  intro A E R h
  unfold Builtin.«NoneType.__eq__»
  refine wpAny_bind (m := slotArgs "__eq__" 1 ⟨[.none, .ref a], []⟩) (wpAny_of_eq (a := (.none, [.ref a])) (by first | rfl | kernel_rfl) ?_)
  exact wpAny_pure (h s.toks)
/-- .. called -/
theorem decl_try {u : Value} {T id : String} {B : Builtin} {Q : Option Value → Shared → Prop} (hT : s.TypeIs u T) (slot : Slot T (cmpInfo .Eq).2.1 id) (entry : entryFor table id = some B) (args : argsOk id ⟨[u, .ref a], []⟩) (hB : DeclB prog w B u a s) (q : ∀ tk, Q none { s with toks := tk }) :
    wpAny (model prog w) A (tryCompare u "__eq__" (.ref a)) Q E s :=
  wpAny_tryCompare_declines (name := "__eq__") hT slot (call_meetsIn (S := fun _ R s' => s' = s ∧ ∀ tk, R (.ok (.ret .notImplemented)) { s with toks := tk }) slot hT entry args
    (fun A R s' ⟨e, h⟩ => by subst e; exact hB A.in1 _ _ h) ⟨rfl, fun tk => ⟨rfl, q tk⟩⟩)
/-- the walk of a list that holds nothing equal -/
theorem loop_no {l : Addr} {N : Nat} {x : Value} {Jv : Shared → Prop} {R : Result → Shared → Prop}
    (hJ : ∀ s, Jv s → ∃ (items : Array Value) (n : Nat) (dd : Option Addr) (sl : Array (Option Value)), s.heap.get? l = some { cls := .type "list", dict := dd, data := .seq items n, slots := sl } ∧ items.size = N ∧ ∀ y ∈ items, wpAny (model prog w) A.in1 (eqBool y x) (fun b s' => b = false ∧ Jv s') (fun e s' => R (.error e) s') s) (hR : ∀ s, Jv s → R (.ok (.ret (.bool false))) s) :
    ∀ (k i : Nat) (s : Shared), N - i = k → Jv s → codeAny (model prog w) A (.builtin "list.__contains__.loop" ⟨[.ref l, x, rawInt i], []⟩) R s := by
  intro k
  induction k with
  | zero =>
    intro i s hk hj
    refine codeAny_builtin MeetsSeq.entry_contains_loop ?_
    rw [Around.under_plainId MeetsSeq.plain_contains_loop _]
    obtain ⟨items, n, dd, sl, hl, hN, _⟩ := hJ s hj
    have hr := hR s hj
    clear hj
    obtain ⟨hp, g, d, tk, os⟩ := s
    wp_walk using AutoSeq1.wpAny_loadPart' hl
    have hi : items[((i : Nat) : Int).toNat]? = none := by simp; omega
    rw [hi]
    wp_walk
    exact hr
  | succ k ih =>
    intro i s hk hj
    refine codeAny_builtin MeetsSeq.entry_contains_loop ?_
    rw [Around.under_plainId MeetsSeq.plain_contains_loop _]
    obtain ⟨items, n, dd, sl, hl, hN, he⟩ := hJ s hj
    have hlt : i < items.size := by omega
    have hi : items[((i : Nat) : Int).toNat]? = some items[i] := by simp [hlt]
    have he' := he _ (Array.getElem_mem hlt)
    obtain ⟨hp, g, d, tk, os⟩ := s
    wp_walk using AutoSeq1.wpAny_loadPart' hl
    rw [hi]
    refine wpAny_bind (thn he' fun b s' ⟨eb, hj'⟩ => ?_)
    subst eb
    have hc : ((i : Int) + 1) = ((i + 1 : Nat) : Int) := by push_cast; rfl
    wp_walk
    rw [hc]
    exact ⟨plainId_quiet MeetsSeq.plain_contains_loop _, ih (i + 1) s' (by omega) hj'⟩
theorem notIn_no {l : Addr} {N : Nat} {x : Value} {Jv : Shared → Prop} {Q : Value → Shared → Prop}
    (hJ : ∀ s, Jv s → ∃ (items : Array Value) (n : Nat) (dd : Option Addr) (sl : Array (Option Value)), s.heap.get? l = some { cls := .type "list", dict := dd, data := .seq items n, slots := sl } ∧ items.size = N ∧ ∀ y ∈ items, wpAny (model prog w) A.in1 (eqBool y x) (fun b s' => b = false ∧ Jv s') E s)
    (hj : Jv s) (q : ∀ s, Jv s → Q (.bool true) s) : wpAny (model prog w) A (compareOp .NotIn x (.ref l)) Q E s := by
  obtain ⟨items, n, dd, sl, hl, hN, _⟩ := hJ s hj
  show wpAny _ A (do return .bool (!(← contains (.ref l) x))) Q E s
  refine wpAny_bind (wpAny_contains_slot ⟨_, hl, rfl⟩ F.slot_list_contains ?_)
  refine wpAny_mono (call_meetsIn (S := fun A' R s' => A' = A ∧ Jv s' ∧ (∀ s, Jv s → R (.ok (.ret (.bool false))) s) ∧ ∀ e s, E e s → R (.error e) s) F.slot_list_contains ⟨_, hl, rfl⟩ F.entry_list_contains (F.args_list_contains_2 _ _) ?_ ⟨rfl, hj, fun s hs => ?_, fun e s z => z⟩) (fun v s' z => z) fun _ _ z => z
  · rintro A' R s' ⟨rfl, hj', hR, hE⟩
    obtain ⟨items, n, dd, sl, hl, hN, _⟩ := hJ s' hj'
    have go := fun k => loop_no (prog := prog) (w := w) (A := A') (x := x) (R := R) (fun s hs => by
      obtain ⟨items, n, dd, sl, hl, hN, he⟩ := hJ s hs
      exact ⟨items, n, dd, sl, hl, hN, fun y hy => wpAny_mono (he y hy) (fun _ _ z => z) hE⟩) hR k 0 s'
    obtain ⟨hp, g, d, tk, os⟩ := s'
    wp_walk using AutoSeq1.wpAny_loadPart' hl
    exact ⟨plainId_quiet MeetsSeq.plain_contains_loop _, go _ rfl hj'⟩
  · exact wpAny_truthy_bool (wpAny_pure (q s hs))
end
end R0

/-! o not in [..] as a rule. -/
namespace R0
open PySem PySem.Spec PyProof.Rows L2

/-- a value of a built-in kind -/
inductive Bk (H : Hp) : V → Prop
  | str (x : PySem.Str) : Bk H (.str x)
  | int (i : Int) : Bk H (.int i)
  | non : Bk H .non
  | tup {t : Addr} {xs : List V} (e : H t = some (.tup xs)) : Bk H (.ref t)
  | dict {d : Addr} {kvs : List (Key × V)} (e : H d = some (.dK kvs)) : Bk H (.ref d)
theorem Bk.same {H H' : Hp} {y : V} (b : Bk H y) (s : Same H H') : Bk H' y := by
  cases b with
  | str x => exact .str x
  | int i => exact .int i
  | non => exact .non
  | tup e => exact .tup (s _ _ e)
  | dict e => exact .dict (s _ _ e)
/-- the class is under none of these -/
structure OffB (K : PySem.W.Frag) (C : Addr) : Prop where
  str : PySem.W.subIn K (.ref C) (.type "str") = some false
  int : PySem.W.subIn K (.ref C) (.type "int") = some false
  non : PySem.W.subIn K (.ref C) (.type "NoneType") = some false
  tup : PySem.W.subIn K (.ref C) (.type "tuple") = some false
  dict : PySem.W.subIn K (.ref C) (.type "dict") = some false
section
variable {X : Cx} {CX : CXT} {n : Nat} {C f : Addr} {fd : FuncData} {ps : List PySem.Str} {sp : Sp} {E : XK}
theorem eq_core {A : Around} {pins : List (Addr × Obj)} {σ : L2.St} {H : Hp} {s : Shared} {a dx : Addr} {fs : List (PySem.Str × V)} {y : V} {u : Value} {T id : String} {B : Builtin} (m : OwnM X CX n C "__eq__" f fd ps sp E) (sb : Sub X n A) (hu : A.units + 10 < cLine) (I : Inv X pins σ H s) (ha : H a = some (.ins C dx fs)) (ry : RelV y u)
    (hT : s.TypeIs u T) (hne : (u == Value.ref a) = false) (hone : oneThing? .Eq u (.ref a) = none) (hfl : ∀ x t, u ≠ .float x t) (hsub : PySem.W.subIn X.K (.ref C) (.type T) = some false) (slot : Slot T (cmpInfo .Eq).2.1 id) (entry : entryFor table id = some B) (args : argsOk id ⟨[u, .ref a], []⟩) (hB : DeclB X.prog X.w B u a s)
    (h : sp [.ref a, y] H (fun v H' => v = .bl false ∧ Same H H') E) : wpAny (model X.prog X.w) A (eqBool u (.ref a)) (fun b s' => b = false ∧ ∃ H', Inv X pins σ H' s' ∧ Same H H') X.xe s := by
  obtain ⟨od, J⟩ := ins_inst I ha
  unfold eqBool
  refine wpAny_holding ?_
  rw [if_neg (by rw [hne]; exact Bool.false_ne_true)]
  have rc : wpAny (model X.prog X.w) A (richCompare .Eq u (.ref a)) (fun v s' => v = .bool false ∧ ∃ H', Inv X pins σ H' s' ∧ Same H H') X.xe s := by
    unfold richCompare
    refine wpAny_holding (wpAny_bind (wpAny_cRoomFor (by omega) ?_))
    rw [hone]
    refine wpAny_bind (wpAny_typeOf hT (wpAny_bind (J.type.here ?_)))
    refine wpAny_bind (m := isSubtype (.ref C) (.type T)) ((PySem.W.looks_subIn I.kIn hsub).here ?_)
    dsimp only
    rw [if_neg Bool.false_ne_true]
    refine wpAny_bind (decl_try hT slot entry args hB fun tk => ?_)
    have I1 := I.tok tk
    obtain ⟨od1, J1⟩ := ins_inst I1 ha
    refine wpAny_bind (m := tryCompare (.ref a) "__eq__" u) ?_
    unfold tryCompare
    refine wpAny_bind (PySem.W.ifBound_K I1.kIn J1 m.s m.fn (thn (run_below sb m.F m.b m.x I1 (.cons (vr a) (.cons ry .nil)) h) fun v s' ⟨z, H', I', rz, e, q⟩ => ?_))
    subst e
    obtain rfl : v = Value.bool false := rz
    exact wpAny_pure (wpAny_pure ⟨rfl, H', I', q⟩)
  have fin : wpAny (model X.prog X.w) A (richCompare .Eq u (.ref a) >>= fun v => truthOfDropped v) (fun b s' => b = false ∧ ∃ H', Inv X pins σ H' s' ∧ Same H H') X.xe s :=
    wpAny_bind (thn rc fun v s' ⟨e, q⟩ => by
      subst e
      exact wpAny_truthy_bool ⟨rfl, q⟩)
  cases u <;> exact fin
theorem eq_item {A : Around} {pins : List (Addr × Obj)} {σ : L2.St} {H : Hp} {s : Shared} {a dx : Addr} {fs : List (PySem.Str × V)} {y : V} {u : Value} (m : OwnM X CX n C "__eq__" f fd ps sp E) (ob : OffB X.K C) (sb : Sub X n A) (hu : A.units + 10 < cLine) (I : Inv X pins σ H s) (ha : H a = some (.ins C dx fs)) (ry : RelV y u) (bk : Bk H y)
    (h : sp [.ref a, y] H (fun v H' => v = .bl false ∧ Same H H') E) : wpAny (model X.prog X.w) A (eqBool u (.ref a)) (fun b s' => b = false ∧ ∃ H', Inv X pins σ H' s' ∧ Same H H') X.xe s := by
  obtain ⟨od, J⟩ := ins_inst I ha
  have ry0 := ry
  cases bk with
  | str x =>
    obtain ⟨t, rfl⟩ := (show ∃ t, u = Value.str x t from ry)
    exact eq_core m sb hu I ha ry0 (typeIs_str s x t) rfl rfl (fun _ _ z => nomatch z) ob.str PySem.F.slot_str_eq PySem.F.entry_str_eq (PySem.F.args_str_eq_2 _ _) (decl_str J rfl) h
  | int i =>
    obtain ⟨t, rfl⟩ := (show ∃ t, u = Value.int i t from ry)
    exact eq_core m sb hu I ha ry0 (typeIs_int s i t) rfl rfl (fun _ _ z => nomatch z) ob.int PySem.F.slot_int_eq PySem.F.entry_int_eq (PySem.F.args_int_eq_2 _ _) (decl_int J rfl) h
  | non =>
    obtain rfl : u = Value.none := ry
    exact eq_core m sb hu I ha ry0 rfl rfl rfl (fun _ _ z => nomatch z) ob.non PySem.F.slot_NoneType_eq PySem.F.entry_NoneType_eq (PySem.F.args_NoneType_eq_2 _ _) decl_none h
  | @tup t xs e =>
    obtain rfl : u = Value.ref t := ry
    obtain ⟨_, its, _, o, ho, hc, _⟩ := (show ObjOk X.prog X.w H s.heap t (.tup xs) from I.hok t _ e)
    have hne : t ≠ a := ne_of e ha (fun z => nomatch z)
    exact eq_core m sb hu I ha ry0 ⟨o, ho, hc⟩ (by simpa using hne) rfl (fun _ _ z => nomatch z) ob.tup PySem.F.slot_tuple_eq PySem.F.entry_tuple_eq (PySem.F.args_tuple_eq_2 _ _) (decl_tup I.kIn J ob.tup) h
  | @dict d kvs e =>
    obtain rfl : u = Value.ref d := ry
    obtain ⟨_, _, vs, _, hd⟩ := dk_of I.hok e
    have hne : d ≠ a := ne_of e ha (fun z => nomatch z)
    exact eq_core m sb hu I ha ry0 hd.typeIs (by simpa using hne) rfl (fun _ _ z => nomatch z) ob.dict PySem.F.slot_dict_eq PySem.F.entry_dict_eq (PySem.F.args_dict_eq_2 _ _) (decl_dict I.kIn J ob.dict hd.typeIs) h
def rNotInO (C : Addr) (sp : Sp) (E : XK) : R2 := fun x y H Q => ∃ a dx fs l ys, x = .ref a ∧ H a = some (.ins C dx fs) ∧ y = .ref l ∧ H l = some (.lst ys) ∧ (∀ y ∈ ys, Bk H y) ∧ (∀ y ∈ ys, ∀ H', Same H H' → sp [.ref a, y] H' (fun v H'' => v = .bl false ∧ Same H' H'') E) ∧ ∀ H', Same H H' → Q (.bl true) H'
theorem op_notInO (m : OwnM X CX n C "__eq__" f fd ps sp E) (ob : OffB X.K C) (hr : Room (n + 1) X.A) : OpR X (compareOp .NotIn) (rNotInO C sp E) := by
  intro pins s σ H x y v u Q I rx ry h
  obtain ⟨a, dx, fs, l, ys, rfl, ha, rfl, hl, bk, hs, q⟩ := h
  obtain rfl : v = Value.ref a := rx
  obtain rfl : u = Value.ref l := ry
  refine notIn_no (N := ys.length) (Jv := fun s' => ∃ H', Inv X pins σ H' s' ∧ Same H H') (fun s' ⟨H', I', s1⟩ => ?_) ⟨H, I, Same.refl _⟩ fun s' ⟨H', I', s1⟩ => ⟨.bl true, H', I', rfl, q H' s1⟩
  obtain ⟨z, its, c, rv, e⟩ := (show ObjOk X.prog X.w H' s'.heap l (.lst ys) from I'.hok l _ (s1 _ _ hl))
  have hlen := rv.length
  refine ⟨its.toArray, c, none, #[], e, by rw [List.size_toArray]; exact hlen.symm, fun w hw => ?_⟩
  have hw' : w ∈ its := by simpa using hw
  obtain ⟨i, hi, rfl⟩ := List.mem_iff_getElem.mp hw'
  have hyi : ys[i]? = some ys[i] := List.getElem?_eq_getElem (by omega)
  have ryi : RelV ys[i] its[i] := by
    obtain ⟨u', h2, h3⟩ := Vals.get rv hyi
    rw [List.getElem?_eq_getElem hi] at h2
    obtain rfl := Option.some.inj h2
    exact h3
  have hm : ys[i] ∈ ys := List.getElem_mem _
  refine wpAny_mono (eq_item m ob ⟨hr.in1, rfl⟩ (by have := hr.in1.units; omega) I' (s1 _ _ ha) ryi ((bk _ hm).same s1) (hs _ hm H' s1)) (fun b s2 ⟨e1, H2, I2, s2'⟩ => ⟨e1, H2, I2, s1.trans s2'⟩) fun _ _ z => z
end
end R0

/-! o | p and the like, o and p instances of one own class that has the method. -/
namespace R0
open PySem PySem.Spec PyProof.Rows L2

section
variable {X : Cx} {CX : CXT} {n : Nat} {C f : Addr} {fd : FuncData} {ps : List PySem.Str} {sp : Sp} {E : XK}
theorem back_of {pins : List (Addr × Obj)} {σ : L2.St} {Q : VK} {u : Value} {s : Shared} (h : EP X pins σ Q u s) : PySem.W.CmpBack (EP X pins σ Q) u s := by
  obtain ⟨z, H', I', rz, q⟩ := h
  cases z with
  | non => cases rz; exact ⟨.non, H', I', rfl, q⟩
  | bl b => cases rz; exact ⟨.bl b, H', I', rfl, q⟩
  | int i => obtain ⟨t, rfl⟩ := rz; exact ⟨.int i, H', I', ⟨t, rfl⟩, q⟩
  | str x => obtain ⟨t, rfl⟩ := rz; exact ⟨.str x, H', I', ⟨t, rfl⟩, q⟩
  | byt b => obtain ⟨t, rfl⟩ := rz; exact ⟨.byt b, H', I', ⟨t, rfl⟩, q⟩
  | flt b => obtain ⟨t, rfl⟩ := rz; exact ⟨.flt b, H', I', ⟨t, rfl⟩, q⟩
  | ref a => cases rz; exact ⟨.ref a, H', I', rfl, q⟩
  | ty t => cases rz; exact ⟨.ty t, H', I', rfl, q⟩
def rBinO (C : Addr) (sp : Sp) (E : XK) : R2 := fun x y H Q => ∃ a b dx fs dy gs, x = .ref a ∧ y = .ref b ∧ H a = some (.ins C dx fs) ∧ H b = some (.ins C dy gs) ∧ sp [.ref a, .ref b] H Q E
theorem op_bin {op : Operator} (m : OwnM X CX n C (PySem.dunder op.info.2) f fd ps sp E) (hc : PySem.W.selfFirst X.K C = true) (hr : Room n X.A) : OpR X (binaryOp op) (rBinO C sp E) := by
  intro pins s σ H x y v u Q I rx ry h
  obtain ⟨a, b, dx, fs, dy, gs, rfl, rfl, ha, hb, q⟩ := h
  obtain rfl : v = Value.ref a := rx
  obtain rfl : u = Value.ref b := ry
  obtain ⟨od, J⟩ := ins_inst I ha
  obtain ⟨oe, J2⟩ := ins_inst I hb
  obtain ⟨mm, hF⟩ := I.fr
  exact PySem.W.binop_K hF I.ok.mod.kin J J2.type hc m.s m.fn (thn (run_below ⟨hr, rfl⟩ m.F m.b m.x I (.cons (vr a) (.cons (vr b) .nil)) q) fun w s' h => back_of h)
end
end R0

/-! o | p where o is an instance of an own class and p is a value of another kind. -/
namespace R0
open PySem PySem.Spec PyProof.Rows L2

section
open PySem.W
variable {prog : Program} {w : World} {A : Around} {E : Value → Shared → Prop} {s : Shared} {K : Frag} {x C L f : Addr} {h₀ : Heap} {m : Str → Option Value} {ox : Obj} {od : Option Obj}
/-- what the right operand's type says -/
structure RightT (M : Model) (h : Heap) (C : Addr) (nm : String) (tb : Value) : Prop where
  ne : (Value.ref C == tb) = false
  fl : ∃ right, Looks M h (fillsNumberSlot tb nm) right ∧ (right = true → Looks M h (isSubtype tb (.ref C)) false ∧ ∃ q, Looks M h (numberSlotInPython tb nm) q ∧ (q = false → ∃ ro, Looks M h (typeLookup tb (dunderR nm)) ro))
theorem bin_other {op : Operator} {b tb : Value} {rc : Option Value} {Q : Value → Shared → Prop} (F : Fr h₀ L s.heap m) (X₀ : K.In h₀) (I : InstAt s.heap x ox C od) (hb : Looks (model prog w) s.heap (typeOf b) tb) (hc : selfFirst K C = true)
    (hs : findIn K (.ref C) (PySem.dunder op.info.2) = some (some (.ref f))) (hf : isFn K (.ref f) = true) (hr : findIn K (.ref C) (dunderR op.info.2) = some rc) (hp : rc = none ∨ ∃ g : Addr, rc = some (.ref g))
    (R : RightT (model prog w) s.heap C op.info.2 tb)
    (h : wpAny (model prog w) A (call (.ref f) [.ref x, b]) (PySem.W.CmpBack Q) E s) : wpAny (model prog w) A (binaryOp op (.ref x) b) Q E s := by
  have X := X₀.keeps F.keep
  obtain ⟨cd, rest, hcd, hm⟩ := ksp_first hc
  obtain ⟨hne, right, L4, hR⟩ := R
  rcases hi : op.info with ⟨sym, nm'⟩
  rw [hi] at hs hr L4 hR
  dsimp only at hs hr L4 hR
  have one := ksp_try X I hs hf h
  obtain ⟨hh, g, d, tt, os⟩ := s
  have L1 : Looks (model prog w) hh (typeOf (.ref x)) (.ref C) := I.type
  have L3 : Looks (model prog w) hh (fillsNumberSlot (.ref C) nm') true := fills_K X hcd hm hs
  have L6 : Looks (model prog w) hh (numberSlotInPython (.ref C) nm') true := ksp_inPy X hs hr hp
  simp only [binaryOp, hi]
  refine wpAny_holding (wpAny_bind ?_)
  unfold binaryOp1
  refine wpAny_bind (L1.at (wpAny_bind (hb.at (wpAny_bind (L3.at ?_)))))
  simp only [hne, Bool.false_eq_true, if_false]
  cases right with
  | false =>
    ksp_lk
    refine wpAny_mono one (fun r s' hr' => ?_) fun _ _ e => e
    obtain ⟨v, rfl, hq⟩ := hr'
    ksp_lk
    exact hq
  | true =>
    obtain ⟨L5, q, L7, L8⟩ := hR rfl
    cases q with
    | true =>
      ksp_lk
      refine wpAny_mono one (fun r s' hr' => ?_) fun _ _ e => e
      obtain ⟨v, rfl, hq⟩ := hr'
      ksp_lk
      exact hq
    | false =>
      obtain ⟨ro, L8⟩ := L8 rfl
      ksp_lk
      refine wpAny_mono one (fun r s' hr' => ?_) fun _ _ e => e
      obtain ⟨v, rfl, hq⟩ := hr'
      ksp_lk
      exact hq
/-- a built-in type on the right -/
def rightB (K : Frag) (C : Addr) (nm T : String) : Bool := (findIn K (.type T) (PySem.dunder nm)).isSome && ((findIn K (.type T) (dunderR nm)).isSome && (subIn K (.type T) (.ref C) == some false))
theorem right_b {M : Model} {h : Heap} {nm T : String} (X : K.In h) (e : rightB K C nm T = true) : RightT M h C nm (.type T) := by
  unfold rightB at e
  rw [Bool.and_eq_true, Bool.and_eq_true] at e
  obtain ⟨fo, h1⟩ := Option.isSome_iff_exists.mp e.1
  obtain ⟨ro, h2⟩ := Option.isSome_iff_exists.mp e.2.1
  exact ⟨Bool.eq_false_iff.mpr (fun q => by cases beq_iff_eq.mp q), _, ksp_fillsT X h1 h2, fun _ => ⟨looks_subIn X (beq_iff_eq.mp e.2.2), false, Looks.of_pure rfl, fun _ => ⟨ro, looks_findIn X h2⟩⟩⟩
/-- an own class on the right that has the method itself -/
theorem right_own {M : Model} {h : Heap} {nm : String} {D g : Addr} {rc : Option Value} (X : K.In h) (hne : C ≠ D) (hc : selfFirst K D = true) (hs : findIn K (.ref D) (PySem.dunder nm) = some (some (.ref g))) (hr : findIn K (.ref D) (dunderR nm) = some rc) (hp : rc = none ∨ ∃ g : Addr, rc = some (.ref g)) (sb : subIn K (.ref D) (.ref C) = some false) : RightT M h C nm (.ref D) := by
  obtain ⟨cd, rest, hcd, hm⟩ := ksp_first hc
  exact ⟨Bool.eq_false_iff.mpr fun q => hne (by cases beq_iff_eq.mp q; rfl), true, fills_K X hcd hm hs, fun _ => ⟨looks_subIn X sb, true, ksp_inPy X hs hr hp, fun z => nomatch z⟩⟩
/-- an own class on the right that has no such method -/
theorem right_none {M : Model} {h : Heap} {nm : String} {D : Addr} {cd : ClassData} (X : K.In h) (hne : C ≠ D) (hc : clsIn K D = some cd) (hm : cd.mro = [.ref D, .type "object"]) (hs : findIn K (.ref D) (PySem.dunder nm) = some none) (hr : findIn K (.ref D) (dunderR nm) = some none)
    (hs2 : findIn K (.type "object") (PySem.dunder nm) = some none) (hr2 : findIn K (.type "object") (dunderR nm) = some none) : RightT M h C nm (.ref D) := by
  refine ⟨Bool.eq_false_iff.mpr fun q => hne (by cases beq_iff_eq.mp q; rfl), false, ?_, fun z => nomatch z⟩
  intro A Q E s k q
  have Lm : Looks M h (mroOf (.ref D)) cd.mro := (looks_clsIn X hc).andThen (f := fun cd => pure cd.mro) .now
  have Lm' := Lm.keeps k
  obtain ⟨hh, g, d, tt, os⟩ := s
  have X' : K.In hh := X.keeps k
  have L1 : Looks M hh (typeLookup (.ref D) (PySem.dunder nm)) none := looks_findIn X' hs
  have L2 : Looks M hh (typeLookup (.ref D) (dunderR nm)) none := looks_findIn X' hr
  have L3 : Looks M hh (typeLookup (.type "object") (PySem.dunder nm)) none := looks_findIn X' hs2
  have L4 : Looks M hh (typeLookup (.type "object") (dunderR nm)) none := looks_findIn X' hr2
  unfold fillsNumberSlot
  refine wpAny_bind (Lm'.at ?_)
  rw [hm, List.anyM_cons]
  refine wpAny_bind ?_
  show wpAny M A (List.anyM _ [PySem.dunder nm, dunderR nm]) _ _ _
  rw [List.anyM_cons]
  refine wpAny_bind (wpAny_bind (L1.at (wpAny_pure ?_)))
  rw [if_neg Bool.false_ne_true, List.anyM_cons]
  refine wpAny_bind (wpAny_bind (L2.at (wpAny_pure ?_)))
  rw [if_neg Bool.false_ne_true, List.anyM_nil]
  refine wpAny_pure ?_
  rw [if_neg Bool.false_ne_true, List.anyM_cons]
  refine wpAny_bind (wpAny_bind (L3.at (wpAny_bind (L4.at (wpAny_pure ?_)))))
  rw [if_neg (by simp), List.anyM_nil]
  exact wpAny_pure q
end
section
variable {X : Cx} {CX : CXT} {n : Nat} {C f : Addr} {fd : FuncData} {ps : List PySem.Str} {sp : Sp} {E : XK}
/-- o | y, y of another kind: what the own method says -/
def rBinX (X : Cx) (C : Addr) (nm : String) (sp : Sp) (E : XK) : R2 := fun x y H Q => ∃ a dx fs tb, x = .ref a ∧ H a = some (.ins C dx fs) ∧ TyX X.K H y tb ∧ (∀ h, X.K.In h → RightT (model X.prog X.w) h C nm tb) ∧ sp [.ref a, y] H (fun _ _ => False) E
theorem op_binX {op : Operator} {rc : Option Value} (m : OwnM X CX n C (PySem.dunder op.info.2) f fd ps sp E) (hc : PySem.W.selfFirst X.K C = true) (hr : PySem.W.findIn X.K (.ref C) (dunderR op.info.2) = some rc) (hp : rc = none ∨ ∃ g : Addr, rc = some (.ref g)) (hrm : Room n X.A) : OpR X (binaryOp op) (rBinX X C op.info.2 sp E) := by
  intro pins s σ H x y v u Q I rx ry h
  obtain ⟨a, dx, fs, tb, rfl, ha, ty, hR, q⟩ := h
  obtain rfl : v = Value.ref a := rx
  obtain ⟨od, J⟩ := ins_inst I ha
  obtain ⟨mm, hF⟩ := I.fr
  obtain ⟨P, Z, p, _⟩ := kit_of I ry ty
  exact bin_other hF I.ok.mod.kin J (Z.ty _ _ I.kIn p) hc m.s m.fn hr hp (hR _ I.kIn) (thn (run_below ⟨hrm, rfl⟩ m.F m.b m.x I (.cons (vr a) (.cons ry .nil)) q) fun w s' ⟨_, _, _, _, z⟩ => z.elim)
end
end R0

/-! Exceptions of own classes held as values: made, their fields read, asked by isinstance. -/
namespace K0
open PySem PySem.Spec PyProof.Rows L2

/-! ### isinstance of an exception, with or without a dict of its own -/
section
variable {prog : Program} {w : World} {A : Around} {E : Value → Shared → Prop} {s : Shared} {K : PySem.W.Frag} {x D : Addr} {ox : Obj} {od : Option Obj}
open PySem.W
theorem found_data {C : Addr} {name : Str} {a g : Value} (hc : (clsIn K C).isSome = true) (ha : findIn K (.ref C) name = some (some a)) (hg : specialIn K a "__get__" = some (some g)) (ht : takesIn K a = some true) :
    findObj K C od name = some (.bind g a) := by
  obtain ⟨cd, e⟩ := Option.isSome_iff_exists.mp hc
  unfold findObj; rw [e, Option.bind_some, ha, Option.bind_some]; simp [hg, ht]
theorem class_of (c : ExcC K D) {Q : Option Value → Shared → Prop} (X : K.In s.heap) (I : InstAt s.heap x ox D od) (h : Q (some (.ref D)) { s with toks := s.toks + 1 }) :
    wpAny (model prog w) A (getAttr? (.ref x) "__class__") Q E s := by
  have hf : findObj K D od "__class__" = some (.bind (.builtin "getset_descriptor.__get__") (.builtin "object.__class__")) :=
    found_data (by obtain ⟨cd, e, _⟩ := any_some c.hd; rw [e]; rfl) c.ha c.hn c.ht
  obtain ⟨hp, g, d, t, os⟩ := s
  have l0 := I.type (M := model prog w)
  have l1 := looks_findIn (M := model prog w) X c.hg
  have l2 := looks_findIn (M := model prog w) X c.hk
  have l3 := looks_find (M := model prog w) X I hf
  have sb : Looks (model prog w) hp (isInstance (.ref x) (.type "BaseException")) true := l0.andThen (looks_subIn X c.hs)
  have z0 : (false && onTheHeap (Value.builtin "BaseException.__getattribute__")) = false := rfl
  have z2 : (Value.builtin "BaseException.__getattribute__" == Value.builtin "object.__getattribute__") = false := by decide +kernel
  have z1 : (onTheHeap (Value.ref D) && Value.builtin "BaseException.__getattribute__" == Value.builtin "object.__getattribute__") = false := by rw [z2] <;> rfl
  unfold getAttr? getAttrBy? getAttrBy
  refine wpAny_bind (wpAny_mkText (wpAny_bind (wpAny_attempt (wpAny_holding (wpAny_bind (l0.at (wpAny_bind (l1.at ?a))))))))
  show wpAny _ _ (if (onTheHeap (Value.ref D) && Value.builtin "BaseException.__getattribute__" == Value.builtin "object.__getattribute__") = true then _ else _) _ _ _
  rw [z1, if_neg Bool.false_ne_true]
  unfold getAttrByItsOwn hookBefore; refine wpAny_bind ?_
  rw [if_pos (show onTheHeap (Value.ref D) = true from rfl)]
  refine l2.at ?_; refine wpAny_bind (wpAny_attempt (wpAny_holding ?_))
  unfold callGetattribute; rw [z0, if_neg Bool.false_ne_true]
  unfold boundAndCalled; rw [PySem.F.excAttr_ValueError.ga.bind (.ref x)]
  refine wpAny_bind (wpAny_pure ?_)
  show wpAny _ _ (call (.builtin "BaseException.__getattribute__") [.ref x, .str "__class__" t]) _ _ _
  refine wpAny_call (codeAny_call_builtin PySem.F.excAttr_ValueError.ga.plain PySem.F.entry_bexc_ga ?b)
  refine @check_slot (model prog w) _ _ ⟨hp, g, d, t + 1, os⟩ "BaseException.__getattribute__" "BaseException" "__getattribute__" (.ref x) [.str "__class__" t] [] _ (by decide +kernel) (by decide +kernel) sb (PySem.F.args_bexc_ga (.ref x) (.str "__class__" t)) ?c
  unfold Builtin.«object.__getattribute__»
  refine wpAny_bind (wpAny_of_eq (a := ((Value.ref x : Value), [Value.str "__class__" t])) (by first | rfl | (simp only [slotArgs]; rfl)) ?d)
  refine wpAny_bind (wpAny_pure (wpAny_bind (l0.at (wpAny_bind (l3.at ?e)))))
  show wpAny _ _ (holding [Value.builtin "object.__class__"] (call (.builtin "getset_descriptor.__get__") [.builtin "object.__class__", .ref x, .ref D]) >>= ret) _ _ _
  refine wpAny_bind (wpAny_holding (wpAny_call (class_get (s := ⟨hp, g, d, t + 1, os⟩) (ox := ox) (od := od) X I c.hm ?f)))
  refine wpAny_pure ?_
  show wpAny _ _ (handedOut (.ref D)) _ _ _
  rw [handedOut_of (v := .ref D) rfl]
  first | exact wpAny_pure (wpAny_pure h) | exact wpAny_pure h | exact wpAny_pure (wpAny_bind (wpAny_pure (wpAny_pure h)))
theorem kit_exc (c : ExcC K D) : KitX K (.ref x) (.ref D) (fun h => InstAt h x ox D od) where
  ty := fun _ _ _ I => I.type
  it := fun _ _ X _ => by
    obtain ⟨cd, hc, _⟩ := any_some c.hd
    unfold clsIn at hc; split at hc
    · rename_i c' d' cd' sl' ho
      intro A' Q' E' s' k q; unfold isType loadHead
      exact wpAny_bind (wpAny_loadPart (k _ _ (X _ _ ho)) (wpAny_pure q))
    · cases hc
  ne := fun h tp dd its n sl X htp => by
    obtain ⟨cd, hc, _⟩ := any_some c.hd
    refine Bool.eq_false_iff.mpr fun q => ?_
    have e : D = tp := Value.ref.inj (beq_iff_eq.mp q)
    subst e; unfold clsIn at hc; split at hc
    · rename_i c' d' cd' sl' ho
      have z := (X _ _ ho).symm.trans htp
      cases z
    · cases hc
  ca := fun X I k => class_of c X I k
end

/-- at a: an exception of the class at C that is made (with a field f that holds v, or none) -/
def ExAt (H : Hp) (a C : Addr) (fv : Option (Str × V)) : Prop := match fv with
  | none => H a = some (exo a C none)
  | some (f, v) => ∃ d, H a = some (exo a C (some d)) ∧ H d = some (exd d [(f, v)])
theorem ExAt.same {H H' : Hp} {a C : Addr} {fv : Option (Str × V)} (h : ExAt H a C fv) (s : Same H H') : ExAt H' a C fv := by
  cases fv with
  | none => exact s _ _ h
  | some p => obtain ⟨d, h1, h2⟩ := h; exact ⟨d, s _ _ h1, s _ _ h2⟩
section
variable {X : Cx} {pins : List (Addr × Obj)} {σ : L2.St} {H : Hp} {s : Shared}
theorem ExAt.inst {a C : Addr} {fv : Option (Str × V)} (I : Inv X pins σ H s) (h : ExAt H a C fv) : ∃ ox od, PySem.W.InstAt s.heap a ox C od ∧ ∀ f v, fv = some (f, v) → ∃ o u, od = some o ∧ RelV v u ∧ PySem.W.lookIn f o = some (some u) := by
  cases fv with
  | none =>
    obtain ⟨t1, ho⟩ := exo_at I.hok h
    exact ⟨_, none, ⟨ho, rfl, rfl, trivial⟩, fun f v e => by cases e⟩
  | some p =>
    obtain ⟨f, v⟩ := p
    obtain ⟨d, h1, h2⟩ := h
    obtain ⟨t1, ho⟩ := exo_at I.hok h1
    obtain ⟨mA, hns, hr⟩ := exd_at I.hok h2
    obtain ⟨o, hd, hl⟩ := lookIn_ns hns
    refine ⟨_, some o, ⟨ho, rfl, rfl, hd⟩, fun f' v' e => ?_⟩
    cases e
    have l : List.lookup f [(f, v)] = some v := by simp [List.lookup]
    obtain ⟨u, hu, ru⟩ := RelO.some_of (v := v) (o := mA f) (by rw [← l]; exact hr f)
    exact ⟨o, u, rfl, ru, by rw [hl, hu]⟩
end
def rIsX (K : PySem.W.Frag) : List V → Hp → VK → Prop := fun xs H Q => ∃ (a C : Addr) (fv : Option (Str × V)) (c : V) (cv : Value) (b : Bool), xs = [.ref a, c] ∧ ExAt H a C fv ∧ ExcC K C ∧ ClsV c cv ∧ PySem.W.kitOne K (.ref C) cv = some b ∧ Q (.bl b) H
theorem call_isX {X : Cx} : CallR X (.builtin "isinstance") (rIsX X.K) := by
  intro pins s σ H xs us Q I r h
  obtain ⟨a, C, fv, c, cv, b, rfl, hx, xc, k, e, q⟩ := h
  obtain ⟨u1, u2, rfl, r1, r2⟩ := vals2 r
  obtain rfl : u1 = Value.ref a := r1
  have e2 := k.eq r2
  subst e2
  obtain ⟨ox, od, J, _⟩ := hx.inst I
  exact PySem.W.kia_one (kit_exc xc) I.kIn J e (fun z => nomatch z) fun tk => ⟨.bl b, H, I.tok tk, rfl, q⟩
/-- e.f, e an exception with the field f -/
def tExF (K : PySem.W.Frag) (f : Str) (te : TE) : TE := fun σ H Q => te σ H fun x H1 => ∃ (a C : Addr) (v : V), x = .ref a ∧ ExAt H1 a C (some (f, v)) ∧ ExcC K C ∧ PySem.W.findIn K (.ref C) f = some none ∧ Q v H1
theorem pe_exf {X : Cx} {e : Expr} {te : TE} {f : Str} {pos : Pos} (he : PE X e te) (hb : attributeBase e f X.env (eval e X.env) = eval e X.env := by rfl) : PE X (.Attribute e f pos) (tExF X.K f te) := by
  refine ⟨fun pins s σ H Q I h => ?_⟩
  refine attr_of hb (thn (he.run pins s σ H _ I h) fun u s1 ⟨x, H1, I1, rx, a, C, v, ex, hx, xc, hn, q⟩ => ?_)
  subst ex
  obtain rfl : u = Value.ref a := rx
  obtain ⟨ox, od, J, hv⟩ := hx.inst I1
  obtain ⟨o, u, eo, ru, hl⟩ := hv f v rfl
  subst eo
  exact HandSPX.exc_get I1.kIn J xc.hg xc.hk xc.hs (PySem.W.findObj_own xc.hd hn rfl hl) (handed_of ru) ⟨v, H1, I1.tok _, ru, q⟩

/-! ### made: a class without an __init__ of its own -/
theorem pe_exm {X : Cx} {C : Addr} {bmB : List Value} {B newId initId : String} {x : Str} {e : Expr} {ta : TE} {p pos : Pos} (F : ExcBaseFacts B newId initId bmB) (q : PySem.W.excInitIn X.K C bmB newId = true)
    (hi : PySem.W.findIn X.K (.ref C) "__init__" = some (some (.builtin initId))) (gC : X.mg x = some (.ref C)) (kC : PySem.W.keepIn X.K (.ref C) = true) (hg : Gl X x) (he : PE X e ta)
    (hs : starEach [e] X.env = (false, eval e X.env) :: starEach [] X.env := by rfl) (hdb : (x == ("__debug__" : Str)) = false := by decide) :
    PE X (.Call (.Name x p) [e] [] pos) (fun σ H Q => ta σ H fun _ H1 => ∀ a, H1 a = none → Q (.ref a) (upd H1 a (exo a C none))) := by
  refine ⟨fun pins s σ H Q I h => ?_⟩
  refine wpAny_Call_Name_kw (ld_glob I hg gC ?_ hdb)
  refine PySem.W.callWith_K (h₀ := X.base) I.ok.mod.kin kC ?_ hs (by rfl)
  rw [hs]
  show wpAny _ _ (spliced ((false, eval e X.env) :: backTo pos (starEach [] X.env))) _ _ s
  refine Calls.spliced_cons (thn (he.run pins s σ H _ I h) fun u s1 ⟨v, H1, I1, r1, q1⟩ => ?_)
  refine Calls.spliced_nil ⟨I1.kIn, ?_⟩
  show wpAny _ _ (call (.ref C) [u]) _ _ _
  obtain ⟨nm, N, qn, bs, bm, hdct, sn, sub, ab, col, dd, k0, k1, k2, k3, k5, hC, hT⟩ := PySem.W.excInit_of I1.kIn q
  have hl := PySem.W.looks_findIn (M := model X.prog X.w) I1.kIn hi
  obtain ⟨hp, g, d, tk, os⟩ := s1
  refine PySem.W.call_B F hT hC hl (by show 1 ≤ sizeLine; rw [sizeLine_eq]; omega) fun h' k ha ht => ?_
  have hsz : hp.objs.size ≤ hp.objs.size + 1 := Nat.le_succ _
  exact ⟨.ref (hp.objs.size + 1), _, I1.laid (t' := tk) (a := hp.objs.size + 1) (o := exo (hp.objs.size + 1) C none) k hsz (exo_ok ha), rfl, q1 _ (I1.hok.fresh hsz)⟩
end K0

/-! An own exception class whose base's __new__ may be an elder class's: C(..) with an __init__ of its own; Base.__init__(self, ..); the first field stored. -/
namespace K0
open PySem PySem.Spec PyProof.Rows
open Builtin Builtin.ObjectAttr

/-- what B's own __init__ is in the model -/
structure InitF (B initId : String) : Prop where
  init : Slot B "__init__" initId
  entry : entryFor table initId = some Builtin.«BaseException.__init__»
  split : splitId initId = some (B, "__init__")
  kind : builtinKind initId = some .slot
  row : Manifest.signature? initId = some ⟨.positional, "*", B, .self, [⟨"args", .varPos, false⟩]⟩
  star : (B != "*") = true
theorem InitF.of {B n i : String} (c : PyProof.Rows.ExcClass B n i) : InitF B i := ⟨c.init, c.initEntry, c.initSplit, c.initKind, c.initSig, c.notStar⟩
/-- what a class's tail of bases says where its __new__ is that of Bn -/
structure TailF (Bn : String) (bm : List Value) : Prop where
  hB : bm.contains (.type Bn) = true
  hA : bm.contains (.type "AttributeError") = false
  hN : bm.contains (.type "NameError") = false

section
variable {prog : Program} {w : World} {A : Around} {E : Value → Shared → Prop} {R : Result → Shared → Prop} {h : Heap} {g : Array GenState} {d : Drawn} {t : Nat} {os : OsState}
variable {nm q : PySem.Str} {C N : Addr} {bs bm bmB : List Value} {hdct : Bool} {sn : List PySem.Str} {sub : List Value} {ab : Bool} {col : Option Bool} {dd : Option Addr} {k0 k1 k2 k3 k5 : Option Value} {B Bi newId initN initId : String}
theorem chk_new {M : Model} (F : ExcBaseFacts B newId initN bmB) (T : TailF B bm) {rest : List Value} {Q : Unit → Shared → Prop}
    (hC : h.get? C = some (excClassObj nm q C N bs bm hdct sn sub ab col dd k0 k1 k2 k3 k5 newId)) (hq : Q () ⟨h, g, d, t, os⟩) : wpAny M A (checkBuiltinCall newId ⟨.ref C :: rest, []⟩) Q E ⟨h, g, d, t, os⟩ := by
  have c1 : (Value.ref C :: bm).contains (.type B) = true := by rw [List.contains_cons, T.hB, Bool.or_true]
  have c2 := F.noStar
  simp only [checkBuiltinCall, F.newKind, F.newSplit, F.newRow]
  repeat (first | refine wpAny_loadPart_at hC ?_ | (refine wpAny_isSubtype_exc hC ?_; rw [c1]) | refine wpAny_staticBase_exc hC ?_ | refine wpAny_madeBy_exc hC ?_ | simp only [bne_self_eq_false, Bool.false_eq_true, if_false] | wp_step)
  exact hq
theorem chk_init {M : Model} (G : InitF Bi initId) (hB : bm.contains (.type Bi) = true) {e : Addr} {oe : Obj} {rest : List Value} {Q : Unit → Shared → Prop}
    (hC : h.get? C = some (excClassObj nm q C N bs bm hdct sn sub ab col dd k0 k1 k2 k3 k5 newId)) (he : h.get? e = some oe) (hcls : oe.cls = .ref C) (hq : Q () ⟨h, g, d, t, os⟩) : wpAny M A (checkBuiltinCall initId ⟨.ref e :: rest, []⟩) Q E ⟨h, g, d, t, os⟩ := by
  have c1 : (Value.ref C :: bm).contains (.type Bi) = true := by rw [List.contains_cons, hB, Bool.or_true]
  have c2 := G.star
  simp only [checkBuiltinCall, G.kind, G.split, G.row]
  repeat (first | (with_reducible refine wpAny_loadPart_at he ?_; rw [hcls]) | with_reducible refine wpAny_loadPart_at hC ?_ | (with_reducible refine wpAny_isSubtype_exc hC ?_; rw [c1]) | wp_step)
  refine wpAny_onRaise ?_
  have z : ∀ (a b : String) (n : Nat), Bind.check ⟨.positional, "*", Bi, .self, [⟨"args", .varPos, false⟩]⟩ a b n (List.map (fun x => x.fst) ({ pos := Value.ref e :: rest } : Args).kw) = pure () := fun a b n => check_star_args _ _ _ _ _ _
  rw [z]
  exact wpAny_pure hq
theorem new_ex (F : ExcBaseFacts B newId initN bmB) (T : TailF B bm) {rest : List Value} (hC : h.get? C = some (excClassObj nm q C N bs bm hdct sn sub ab col dd k0 k1 k2 k3 k5 newId))
    (hq : R (.ok (.ret (.ref (h.objs.size + 1)))) ⟨(h.push { cls := .type "tuple", data := .seq rest.toArray }).push { cls := .ref C, data := .fields #[.ref h.objs.size, .none, .none, .none, .bool false, .none] }, g, d, t, os⟩) (hrest : rest.length ≤ sizeLine) :
    codeAny (model prog w) A (.builtin newId ⟨.ref C :: rest, []⟩) R ⟨h, g, d, t, os⟩ := by
  have c0 := F.ends
  have c1 : (Value.ref C :: bm).contains (.type B) = true := by rw [List.contains_cons, T.hB, Bool.or_true]
  have c2 : (Value.ref C :: bm).contains (.type "AttributeError") = false := by rw [List.contains_cons, T.hA] <;> rfl
  have c3 : (Value.ref C :: bm).contains (.type "NameError") = false := by rw [List.contains_cons, T.hN] <;> rfl
  refine codeAny_builtinAt F.entry ?_
  unfold Builtin.«BaseException.__new__»; refine PySem.wpAt_bind ?_
  show PySem.wpAt _ _ _ (stack >>= _) _ _ _
  refine PySem.wpAt_bind (PySem.wpAt_stack fun p below => PySem.wpAt_of_wpAny ?_); wp_walk
  refine PySem.wpAt_of_wpAny ?_; rw [F.owner]
  repeat (first | with_reducible refine wpAny_madeHere_exc F.canon hC ?_ | with_reducible refine wpAny_loadPart_at hC ?_ | (with_reducible refine wpAny_isSubtype_exc hC ?_; first | rw [c1] | rw [c2] | rw [c3]) | wp_step)
  show R _ _
  rw [Heap.size_push]; exact hq
theorem tcall_ex (F : ExcBaseFacts B newId initN bmB) (T : TailF B bm) {rest : List Value} {fI : Addr} {Q : Fin → Shared → Prop} (hC : h.get? C = some (excClassObj nm q C N bs bm hdct sn sub ab col dd k0 k1 k2 k3 k5 newId))
    (hi : PySem.W.Looks (model prog w) h (typeLookup (.ref C) "__init__") (some (.ref fI))) (hb : ∀ self, PySem.W.Looks (model prog w) h (bindSpecial (.ref fI) self) (.ref fI, [self])) (hrest : rest.length ≤ sizeLine)
    (hq : codeAny (model prog w) A (.call (.ref fI) ⟨.ref (h.objs.size + 1) :: rest, []⟩) (fun r s' => match r with | .ok (.ret v) => v = .none ∧ Q (.done (.ret (.ref (h.objs.size + 1)))) s' | .ok _ => False | .error e => E e s') ⟨(h.push (W.kdv_tup rest)).push (HandSPX.excO C h.objs.size), g, d, t, os⟩) :
    wpAny (model prog w) A (Builtin.«type.__call__» ⟨.ref C :: rest, []⟩) Q E ⟨h, g, d, t, os⟩ := by
  repeat (first | with_reducible refine wpAny_loadPart_at hC ?_ | with_reducible refine wpAny_madeBy_exc hC ?_ | wp_step)
  refine codeAny_call_builtin_code (Code.quiet_builtin _ F.quiet) (chk_new F T hC ?_); refine new_ex F T hC ?_ hrest
  show wpAny _ _ _ _ _ _
  have k : ∀ b o, h.get? b = some o → ((h.push (W.kdv_tup rest)).push (HandSPX.excO C h.objs.size)).get? b = some o := fun b o e => Heap.get?_push_of_some _ (Heap.get?_push_of_some _ e)
  have hC1 := k _ _ hC
  have hget : ((h.push (W.kdv_tup rest)).push (HandSPX.excO C h.objs.size)).get? (h.objs.size + 1) = some (HandSPX.excO C h.objs.size) := by heap_get
  have cC : (Value.ref C :: bm).contains (.ref C) = true := by simp
  have i1 := hi.keeps k; have b1 := (hb (.ref (h.objs.size + 1))).keeps k
  unfold isInstance
  repeat (first | with_reducible refine wpAny_loadPart_at hget ?_ | (with_reducible refine wpAny_isSubtype_exc hC1 ?_; rw [cC]) | wp_step)
  show wpAny _ _ (typeLookup (.ref C) _) _ _ _
  refine i1.at ?_; refine wpAny_holding (wpAny_bind (b1.at ?_))
  refine wpAny_bind (wpAny_call (codeAny_mono hq fun r s' z => ?_))
  rcases r with e | (v | _ | _ | _) <;> first | exact z | exact z.elim | skip
  obtain ⟨rfl, z⟩ := z
  first | exact wpAny_pure (wpAny_pure z) | (wp_walk; exact z)
theorem call_ex (F : ExcBaseFacts B newId initN bmB) (T : TailF B bm) {rest : List Value} {fI : Addr} (hC : h.get? C = some (excClassObj nm q C N bs bm hdct sn sub ab col dd k0 k1 k2 k3 k5 newId))
    (hi : PySem.W.Looks (model prog w) h (typeLookup (.ref C) "__init__") (some (.ref fI))) (hb : ∀ self, PySem.W.Looks (model prog w) h (bindSpecial (.ref fI) self) (.ref fI, [self])) (hrest : rest.length ≤ sizeLine)
    (hq : codeAny (model prog w) (A.under (.builtin "type.__call__" ⟨.ref C :: rest, []⟩)) (.call (.ref fI) ⟨.ref (h.objs.size + 1) :: rest, []⟩) (W.InitBack (h.objs.size + 1) R) ⟨(h.push (W.kdv_tup rest)).push (HandSPX.excO C h.objs.size), g, d, t, os⟩) :
    codeAny (model prog w) A (.call (.ref C) ⟨rest, []⟩) R ⟨h, g, d, t, os⟩ := by
  have f1 := tc_lookup; have f2 := tc_bind (.ref C)
  have hTy : (⟨h, g, d, t, os⟩ : Shared).TypeIs (.ref C) "type" := ⟨_, hC, rfl⟩
  refine codeAny_of_tree ?_
  show wpAny _ _ (callAny (.ref C) _) _ _ _
  repeat (any_goals (first | assumption | with_reducible refine wpAny_loadPart_at hC ?_ | wp_step))
  refine ⟨rfl, ?_⟩
  refine codeAny_call_builtin_at (Code.quiet_builtin _ (by decide +kernel)) entry_typeCall (wpAny_check_type_call_sub hC (tcall_ex F T hC hi hb hrest ?_))
  refine codeAny_mono hq fun r s' z => ?_
  rcases r with e | (v | _ | _ | _) <;> exact z
/-- Base.__init__(e, ..): the args are laid anew -/
theorem base_init (G : InitF Bi initId) (hB : bm.contains (.type Bi) = true) {e t0 : Addr} {rest : List Value} (hC : h.get? C = some (excClassObj nm q C N bs bm hdct sn sub ab col dd k0 k1 k2 k3 k5 newId)) (he : h.get? e = some (HandSPX.excO C t0)) (hrest : rest.length ≤ sizeLine)
    (hq : ∀ h' t1, (∀ b o, b ≠ e → h.get? b = some o → h'.get? b = some o) → h'.get? e = some (HandSPX.excO C t1) → R (.ok (.ret .none)) ⟨h', g, d, t, os⟩) : codeAny (model prog w) A (.call (.builtin initId) ⟨.ref e :: rest, []⟩) R ⟨h, g, d, t, os⟩ := by
  refine codeAny_call_builtin G.init.plain G.entry (chk_init G hB hC he rfl ?_); wp_walk
  refine hq _ h.objs.size (fun b o hb ho => ?_) ?_
  · rw [Heap.get?_update_other _ _ (Ne.symm hb)]; exact Heap.get?_push_of_some _ ho
  · rw [Heap.get?_update_self _ (Heap.get?_push_of_some _ he) rfl] <;> rfl
end
section
variable {prog : Program} {w : World} {A : Around} {E : Value → Shared → Prop} {R : Result → Shared → Prop} {hp : Heap} {g : Array GenState} {d : Drawn} {t : Nat} {os : OsState}
/-- the class's line lets a field be stored -/
structure Passes (C : Addr) (cd : ClassData) : Prop where
  ne : cd.mro.isEmpty = false
  ob : cd.mro.contains (.type "object") = true
  ok : ∀ self : Value, refuseLoop self "__setattr__" cd.mro = pure ()
  hd : cd.hasDict = true
theorem osa_new {K : W.Frag} {name : PySem.Str} {tk : Tok} {v : Value} {x C : Addr} {fv : Array Value} {cd : ClassData}
    (X : K.In hp) (hx : hp.get? x = some { cls := .ref C, data := .fields fv }) (hcd : W.clsIn K C = some cd) (P : Passes C cd) (ha : W.findIn K (.ref C) name = some none)
    (hq : ∀ h' tk' dx, (∀ b o, b ≠ x → hp.get? b = some o → h'.get? b = some o) → hp.objs.size ≤ dx → dx ≠ x → h'.get? x = some { cls := .ref C, dict := some dx, data := .fields fv } → h'.Ns1 dx (fun y => if y = name then some v else none) → R (.ok (.ret .none)) ⟨h', g, d, tk', os⟩) :
    codeAny (model prog w) A (.call (.builtin "object.__setattr__") ⟨[.ref x, .str name tk, v], []⟩) R ⟨hp, g, d, t, os⟩ := by
  have I : W.InstAt hp x { cls := .ref C, data := .fields fv } C none := ⟨hx, rfl, rfl, trivial⟩
  have SF := F.store_object
  have hxs : x ≠ hp.objs.size := Nat.ne_of_lt (Heap.lt_size hx)
  have sb : W.Looks (model prog w) hp (isInstance (.ref x) (.type "object")) true := I.type.andThen (W.looks_mroIn X (by unfold W.mroIn; rw [hcd, Option.bind_some, if_neg (by rw [P.ne]; decide), P.ob]))
  refine codeAny_call_builtin SF.slot.plain SF.entry (@W.check_slot (model prog w) _ _ ⟨hp, g, d, t, os⟩ "object.__setattr__" "object" "__setattr__" (.ref x) [.str name tk, v] [] _ SF.kind SF.split sb (SF.args (.ref x) (.str name tk) v) ?_)
  have l1 : W.Looks (model prog w) hp (mroOf (.ref C)) cd.mro := (W.looks_clsIn X hcd).andThen .now
  have l2 : W.Looks (model prog w) hp (storeTaker? none) none := .now
  have l3 : W.Looks (model prog w) hp (classData C) cd := W.looks_clsIn X hcd
  rw [W.osa_eq, refuse_eq]
  refine wpAny_bind (wpAny_bind (I.type.at (wpAny_bind (l1.at ?b)))); rw [P.ok]
  refine wpAny_pure (wpAny_bind (I.type.at (wpAny_bind ((W.looks_findIn X ha).at (wpAny_bind (l2.at ?c))))))
  show wpAny _ _ (storeInOwnDict (.ref x) (.ref C) (.str name tk) name v false) _ _ _
  have hd := P.hd
  obtain ⟨nm, bs, mro, ns, qn, hd', sn, sb', ab, col, del⟩ := cd
  dsimp only at hd
  subst hd
  unfold storeInOwnDict ownDictForStores
  repeat (first | with_reducible refine HandSPX.store_in_new ?_ ?_ | with_reducible refine wpAny_loadPart_at hx ?_ | with_reducible refine l3.at ?_ | wp_step)
  · exact ⟨_, #[], _, (Heap.get?_update_ne _ _ _ _ hxs.symm).trans (Heap.get?_push_at rfl rfl), rfl, fun e he => absurd he (by simp), fun _ => rfl⟩
  · intro h' tk' hn' hs
    have hx1 : (hp.push { cls := .type "dict", data := .dict #[] }).get? x = some { cls := .ref C, data := .fields fv } := Heap.get?_push_of_some _ hx
    refine hq h' tk' hp.objs.size (fun b o hb ho => ?_) (Nat.le_refl _) hxs.symm ?_ hn'
    · exact (hs.2 b (Nat.ne_of_lt (Heap.lt_size ho))).trans ((Heap.get?_update_ne _ _ _ _ hb).trans (Heap.get?_push_of_some _ ho))
    · exact (hs.2 x hxs).trans (Heap.get?_update_self _ hx1 rfl)
end
end K0

/-! Own exception classes with an __init__ of their own that calls their base's and keeps one value. -/
namespace K0
open PySem PySem.Spec PyProof.Rows L2

/-- what the written part says of such a class: B its built-in base, Bn the class whose __new__ it has, f its field -/
structure OwnX (K : PySem.W.Frag) (C : Addr) (B Bn newId : String) (f : PySem.Str) : Prop where
  cls : ∃ nm q N bs bm sn sub ab col dd k0 k1 k2 k3 k5, K.lookup C = some (excClassObj nm q C N bs bm true sn sub ab col dd k0 k1 k2 k3 k5 newId) ∧ TailF Bn bm ∧ bm.contains (.type B) = true ∧ bm.contains (.type "object") = true ∧ ∀ self : Value, refuseLoop self "__setattr__" bm = pure ()
  sa : PySem.W.findIn K (.ref C) "__setattr__" = some (some (.builtin "object.__setattr__"))
  noF : PySem.W.findIn K (.ref C) f = some none
  kC : PySem.W.keepIn K (.ref C) = true
section
variable {K : PySem.W.Frag} {C : Addr} {B Bn newId : String} {f : PySem.Str}
theorem OwnX.line (T : OwnX K C B Bn newId f) : ∃ cd, PySem.W.clsIn K C = some cd ∧ Passes C cd := by
  obtain ⟨nm, q, N, bs, bm, sn, sub, ab, col, dd, k0, k1, k2, k3, k5, hC, t1, t2, t3, t4⟩ := T.cls
  refine ⟨{ name := nm, bases := bs, mro := .ref C :: bm, ns := N, qualname := q, hasDict := true, slotNames := sn, subclasses := sub, abstract := ab, collection := col, hasDel := false }, by unfold PySem.W.clsIn; rw [hC] <;> rfl, ⟨rfl, ?_, fun self => ?_, rfl⟩⟩
  · show (Value.ref C :: bm).contains (.type "object") = true
    rw [List.contains_cons, t3, Bool.or_true]
  · show refuseLoop self "__setattr__" (Value.ref C :: bm) = pure ()
    rw [refuseLoop_ref, t4]
end
section
variable {X : Cx} {pins : List (Addr × Obj)} {σ : L2.St} {H : Hp} {s : Shared} {a C : Addr} {B Bn newId initN initId : String} {bmB : List Value} {f : PySem.Str}
/-- self.f = y on a new one -/
theorem field_new (T : OwnX X.K C B Bn newId f) (I : Inv X pins σ H s) (e : H a = some (exo a C none)) {y : V} {u : Value} (ry : RelV y u) {Q : Unit → Shared → Prop} {E : Value → Shared → Prop} {A : Around}
    (h : ∀ dx s', H dx = none → dx ≠ a → Inv X pins σ (upd (upd H dx (exd dx [(f, y)])) a (exo a C (some dx))) s' → Q () s') : wpAny (model X.prog X.w) A (setAttr (.ref a) f u) Q E s := by
  obtain ⟨cd, hcl, P⟩ := T.line
  obtain ⟨t1, ho⟩ := exo_at I.hok e
  obtain ⟨hp, g, d, t, os⟩ := s
  refine PySem.W.set_plain I.kIn (ox := { cls := .ref C, dict := none, data := .fields #[.ref t1, .none, .none, .none, .bool false, .none] }) (od := none) ⟨ho, rfl, rfl, trivial⟩ T.sa ?_
  refine osa_new I.kIn ho hcl P T.noF (fun h' tk' dx k dn dne hx hn => ?_)
  have hnd : H dx = none := I.hok.fresh dn
  have nd : ∀ {b : Addr} {o : Obj}, hp.get? b = some o → b ≠ dx := fun {b o} q => Nat.ne_of_lt (Nat.lt_of_lt_of_le (Heap.lt_size q) dn)
  have na : ∀ {b : Addr}, H b = none → b ≠ a := fun {b} n z => by rw [z, e] at n; cases n
  have U : Un X.fs [] H (upd (upd H dx (exd dx [(f, y)])) a (exo a C (some dx))) hp h' := {
    keep := fun b o q n _ _ => k b o (na n) q, slot := fun b o q n _ _ => ⟨o.slots, k b o (na n) q⟩,
    free := fun b o q n _ => by rw [upd_ne (na n), upd_ne (nd q)] <;> exact n,
    there := fun b o q _ => by
      by_cases hb : b = a
      · exact ⟨_, by rw [hb] <;> exact hx⟩
      · exact ⟨o, k b o hb q⟩,
    tups := fun b xs q => by rw [upd_ne (at_ne e q exo_tup), upd_ne (ne_of_none q hnd)] <;> exact q,
    frzs := fun b o v q => by rw [upd_ne (at_ne e q exo_frz), upd_ne (ne_of_none q hnd)] <;> exact q,
    tbls := fun b ps q => ⟨#[], by rw [upd_ne (at_ne e q exo_tbl), upd_ne (ne_of_none q hnd), q] <;> simp⟩ }
  refine h dx _ hnd dne (I.un (t' := tk') U fun b o q => ?_)
  by_cases hb : b = a
  · subst hb; rw [upd_same] at q; cases q; exact exo_ok hx
  · rw [upd_ne hb] at q
    by_cases hd : b = dx
    · subst hd; rw [upd_same] at q; cases q; exact exd_ok hn (relO_put (fs := []) ry fun g => True.intro)
    · rw [upd_ne hd] at q
      exact (I.hok b o q).stay (fun c v hc z => k c v (by
          rcases hc with hc | hc
          · rw [hc] <;> exact hb
          · exact at_ne e hc exo_own) z) (fun c hc => by rw [upd_ne (at_ne e hc exo_own), upd_ne (ne_of_none hc hnd)] <;> exact hc) (fun c xs hc => by rw [upd_ne (at_ne e hc exo_tup), upd_ne (ne_of_none hc hnd)] <;> exact hc)
/-- B.__init__(self, ..) -/
theorem init_new (G : InitF B initId) (T : OwnX X.K C B Bn newId f) (I : Inv X pins σ H s) (e : H a = some (exo a C none)) {us : List Value} {Q : Value → Shared → Prop} (hl : us.length ≤ sizeLine) (h : ∀ s', Inv X pins σ H s' → Q .none s') :
    wpAny (model X.prog X.w) X.A (call (.builtin initId) (.ref a :: us)) Q X.xe s := by
  obtain ⟨nm, q, N, bs, bm, sn, sub, ab, col, dd, k0, k1, k2, k3, k5, hC, t1, t2, t3, t4⟩ := T.cls
  obtain ⟨t1, ho⟩ := exo_at I.hok e
  obtain ⟨hp, g, d, t, os⟩ := s
  refine wpAny_call (base_init G t2 (I.kIn _ _ hC) ho hl fun h' t2 k hx => ?_)
  have J := I.write (t' := t) (x := a) (e := a) (o := exo a C none) (by rw [e] <;> exact True.intro) (.inl rfl) k ⟨_, hx⟩ (exo_ok hx)
  have eu : upd H a (exo a C none) = H := by
    funext b
    by_cases hb : b = a
    · rw [hb, upd_same, e]
    · rw [upd_ne hb]
  rw [eu] at J
  exact h _ J
end
/-- B.__init__(self, ..): what it asks -/
def tInit (K : PySem.W.Frag) (B Bn newId : String) (f : PySem.Str) (ta : TA) : TE := fun σ H Q => ta σ H fun vs H1 => ∃ (a C : Addr) (ws : List V), vs = .ref a :: ws ∧ ws.length ≤ 1000 ∧ OwnX K C B Bn newId f ∧ H1 a = some (exo a C none) ∧ Q .non H1
/-- self.f = e: what it asks -/
def tFirst (K : PySem.W.Frag) (B Bn newId : String) (f : PySem.Str) (to te : TE) : TS := fun D σ H => te σ H fun y H1 => to σ H1 fun x H2 => ∃ a C : Addr, x = .ref a ∧ OwnX K C B Bn newId f ∧ H2 a = some (exo a C none) ∧ ∀ dx, H2 dx = none → dx ≠ a → D.nx σ (upd (upd H2 dx (exd dx [(f, y)])) a (exo a C (some dx)))
section
variable {X : Cx} {B Bn newId initId : String} {f : PySem.Str} {o e : Expr} {es : List Expr} {to te : TE} {ta : TA} {p p' p1 p2 pos : Pos}
theorem pe_binit {x : PySem.Str} {pl : Sem Bool} (G : InitF B initId) (hg : Gl X x) (hm : X.mg x = none) (hv : bootBuiltins x = some (.type B)) (n1 : x ≠ "__name__") (n2 : (x == ("__debug__" : PySem.Str)) = false) (ty : typeOf (.type B) = pure (.type "type")) (nst : Manifest.isStub B = false)
    (vV : PySem.W.findCls X.K (.type B) (.type "type") "__init__" = some (.val (.builtin initId))) (hh : PySem.W.handedIn (.builtin initId) = true) (ha : PA X (e :: es) ta)
    (hc : eval (.Call (.Attribute (.Name x p1) "__init__" p2) (e :: es) [] pos) X.env = (do
      let ov ← eval (.Name x p1) X.env
      standAt p2.atName
      let (f, first) ← holding [ov] (getMethod ov "__init__" pl)
      callWith pos f first (backTo pos (starEach (e :: es) X.env)) (backToKw pos (keywordEach [] X.env))) := by rfl)
    (he : starEach (e :: es) X.env = (false, eval e X.env) :: starEach es X.env := by rfl) (hpl : (backTo pos (starEach es X.env)).any (·.1) = false := by rfl) :
    PE X (.Call (.Attribute (.Name x p1) "__init__" p2) (e :: es) [] pos) (tInit X.K B Bn newId f ta) := by
  refine ⟨fun pins s σ H Q I h => ?_⟩
  refine PySem.W.methodCall_KW (ld_blt I hg hm hv ?_ n1 n2) hc
  obtain ⟨m, fr⟩ := I.fr
  refine PySem.W.method_type fr I.ok.mod.kin ty nst vV hh ?_
  show wpAny _ _ (callWith pos (Value.builtin initId) [] (backTo pos (starEach (e :: es) X.env)) []) _ _ _
  refine PyProof.Rows.callWith_method1 (thn (ha.run pos pins _ σ H _ (I.tok _) h) fun us s1 ⟨vs, H1, I1, r1, a, C, ws, ev, hl, T, ea, q⟩ => ?_) he hpl
  subst ev
  cases r1 with
  | @cons _ u0 _ ur ra rw' =>
    obtain rfl : u0 = Value.ref a := ra
    have hlen : ur.length ≤ sizeLine := by rw [← Paired.length rw', sizeLine_eq]; omega
    exact init_new G T I1 ea hlen fun s' J => ⟨.non, H1, J, rfl, q⟩
theorem ps_first (ho : PE X o to) (he : PE X e te) (hs : swapsWith e (some (.Attribute o f p')) pos.line X.env = pure false := by rfl) : PS X (.Assign [.Attribute o f p'] e pos) (tFirst X.K B Bn newId f to te) := by
  refine ⟨fun pins s σ H D I h => ?_⟩
  refine plainObj_wpAny_Assign_Attribute (thn (he.run pins s σ H _ I h) fun v s1 ⟨y, H1, I1, r1, q1⟩ => thn (ho.run pins s1 σ H1 _ I1 q1) fun u s2 ⟨x, H2, I2, r2, a, C, ex, T, ea, q⟩ => ?_) hs
  subst ex
  obtain rfl : u = Value.ref a := r2
  exact field_new T I2 ea r1 fun dx s' n ne J => ⟨σ, _, J, q dx n ne⟩
end
/-- the promise of such an __init__ -/
def spInit (K : PySem.W.Frag) (B Bn newId : String) (f : PySem.Str) : Sp := fun vs H Q _ => ∃ (a C : Addr) (v : V), vs = [.ref a, v] ∧ OwnX K C B Bn newId f ∧ H a = some (exo a C none) ∧ ∀ d, H d = none → d ≠ a → Q .non (upd (upd H d (exd d [(f, v)])) a (exo a C (some d)))
/-- C(e) -/
theorem pe_exi {X : Cx} {CX : CXT} {x : PySem.Str} {C fI : Addr} {k : Nat} {fd : FuncData} {ps : List PySem.Str} {B Bn newId initN : String} {bmB : List Value} {f : PySem.Str} {e : Expr} {ta : TE} {p pos : Pos} (FB : ExcBaseFacts Bn newId initN bmB) (T : OwnX X.K C B Bn newId f)
    (iC : PySem.W.findIn X.K (.ref C) "__init__" = some (some (.ref fI))) (tI : PySem.W.typeIn X.K (.ref fI) = some (.type "function")) (F1 : FnOk X.prog X.w X.K X.mg X.base CX0 k fI fd ps (spInit X.K B Bn newId f)) (hr : Room (k + 1) X.A) (hb : Binds X.K fd ps [])
    (hg : Gl X x) (hm : X.mg x = some (.ref C)) (ha : PE X e ta) (hdb : (x == ("__debug__" : PySem.Str)) = false := by decide) (he : starEach [e] X.env = (false, eval e X.env) :: starEach [] X.env := by rfl) :
    PE X (.Call (.Name x p) [e] [] pos) (fun σ H Q => ta σ H fun v H1 => ∀ a d, H1 a = none → H1 d = none → d ≠ a → Q (.ref a) (upd (upd H1 d (exd d [(f, v)])) a (exo a C (some d)))) := by
  refine ⟨fun pins s σ H Q I h => ?_⟩
  obtain ⟨nm, q, N, bs, bm, sn, sub, ab, col, dd, k0, k1, k2, k3, k5, hC, t1, t2, t3, t4⟩ := T.cls
  refine wpAny_Call_Name_kw (ld_glob I hg hm ?_ hdb)
  refine PySem.W.callWith_K (h₀ := X.base) I.ok.mod.kin T.kC ?_ he (by rfl)
  rw [he]
  show wpAny _ _ (spliced ((false, eval e X.env) :: backTo pos (starEach [] X.env))) _ _ s
  refine Calls.spliced_cons (thn (ha.run pins s σ H _ I h) fun u s1 ⟨v, H1, I1, r1, q1⟩ => ?_)
  refine Calls.spliced_nil ⟨I1.kIn, ?_⟩
  show wpAny _ _ (call (.ref C) [u]) _ _ _
  obtain ⟨hp, g, dr, tk, os⟩ := s1
  have hsz : hp.objs.size ≤ hp.objs.size + 1 := Nat.le_succ _
  have hn : H1 (hp.objs.size + 1) = none := I1.hok.fresh hsz
  have kk : ∀ b o, hp.get? b = some o → ((hp.push (PySem.W.kdv_tup [u])).push (PySem.HandSPX.excO C hp.objs.size)).get? b = some o := fun b o e => Heap.get?_push_of_some _ (Heap.get?_push_of_some _ e)
  have hget : ((hp.push (PySem.W.kdv_tup [u])).push (PySem.HandSPX.excO C hp.objs.size)).get? (hp.objs.size + 1) = some (PySem.HandSPX.excO C hp.objs.size) := by heap_get
  have I2 : Inv X pins σ (upd H1 (hp.objs.size + 1) (exo (hp.objs.size + 1) C none)) ⟨(hp.push (PySem.W.kdv_tup [u])).push (PySem.HandSPX.excO C hp.objs.size), g, dr, tk, os⟩ := I1.laid (t' := tk) kk hsz (exo_ok hget)
  have r2 : Vals [V.ref (hp.objs.size + 1), v] [Value.ref (hp.objs.size + 1), u] := .cons rfl (.cons r1 .nil)
  have hq : spInit X.K B Bn newId f [.ref (hp.objs.size + 1), v] (upd H1 (hp.objs.size + 1) (exo (hp.objs.size + 1) C none)) (fun z H2 => z = .non ∧ ∃ d, H1 d = none ∧ d ≠ hp.objs.size + 1 ∧ H2 = upd (upd H1 d (exd d [(f, v)])) (hp.objs.size + 1) (exo (hp.objs.size + 1) C (some d))) E0 := by
    refine ⟨_, C, v, rfl, T, upd_same, fun d hd hne => ⟨rfl, d, by rw [upd_ne hne] at hd; exact hd, hne, ?_⟩⟩
    funext b
    by_cases hb : b = hp.objs.size + 1
    · rw [hb, upd_same, upd_same]
    · rw [upd_ne hb, upd_ne hb]
      by_cases hbd : b = d
      · rw [hbd, upd_same, upd_same]
      · rw [upd_ne hbd, upd_ne hbd, upd_ne hb]
  have hl : ([Value.ref (hp.objs.size + 1), u] ++ []).length = ps.length := by have z := F1.len _ _ _ _ hq; exact z
  refine wpAny_call (call_ex FB t1 (I1.kIn _ _ hC) (PySem.W.looks_findIn I1.kIn iC) (fun self => PySem.W.bind_fn I1.kIn self tI) (by show 1 ≤ sizeLine; rw [sizeLine_eq]; omega)
    (codeAny_mono (F1.run _ X.stack _ _ ⟨[Value.ref (hp.objs.size + 1), u], []⟩ [Value.ref (hp.objs.size + 1), u] _ _ (fun _ _ _ => False) (hr.make C [u] []) (I2.env0.make C [u] []) (by simpa using hb _ [Value.ref (hp.objs.size + 1), u] I2.kIn hl) r2 hq) fun r s' hq' => ?_))
  cases r with
  | error er => exact hq'.elim
  | ok fl =>
    cases fl with
    | ret w =>
      obtain ⟨z, H2, os2, bare2, un2, hok2, rz, ez, d, hd, hne, eH⟩ := hq'
      subst ez eH
      exact ⟨rz, ⟨.ref (hp.objs.size + 1), _, I2.call' (ch := []) os2 un2 hok2 bare2 (fun b z => absurd z (by simp)), rfl, q1 _ d hn hd hne⟩⟩
    | next => exact False.elim hq'
    | brk => exact False.elim hq'
    | cont => exact False.elim hq'
end K0

/-! repr of a list of kept values; defs that run where no repr is under way; a text times a number; a power of a great number. -/
namespace K0
open PySem PySem.Spec PyProof.Rows L2

/-- texts that are kept: few signs, each a sign -/
def Few (x : PySem.Str) : Prop := x.length ≤ 600 ∧ ∀ c ∈ x.cps.toList, c < 16 ^ 8
/-- a value that an error may keep, and how it reads -/
inductive Kp (H : Hp) : V → PyData → Prop
  | non : Kp H .non .none
  | bl (b : Bool) : Kp H (.bl b) (.bool b)
  | int (i : Int) (h : i.natAbs.log2 < 90) : Kp H (.int i) (.int i)
  | str (x : PySem.Str) (h : Few x) : Kp H (.str x) (.str x)
  | tup {a : Addr} {n : Int} {x : PySem.Str} (e : H a = some (.tup [.int n, .str x])) (h : n.natAbs.log2 < 90) (hx : Few x) : Kp H (.ref a) (.tuple [.int n, .str x])
  | lst {a : Addr} {n : Int} (e : H a = some (.lst [.int n])) (h : n.natAbs.log2 < 90) : Kp H (.ref a) (.list [.int n])
  | dic {a : Addr} {n : Int} {x : PySem.Str} (e : H a = some (.dK [(Sum.inl n, .str x)])) (h : n.natAbs.log2 < 90) (hx : Few x) : Kp H (.ref a) (.dict [(.int n, .str x)])
theorem Kp.same {H H' : Hp} {v : V} {d : PyData} (h : Kp H v d) (s : Same H H') : Kp H' v d := by
  cases h with
  | non => exact .non
  | bl b => exact .bl b
  | int i h => exact .int i h
  | str x h => exact .str x h
  | tup e h hx => exact .tup (s _ _ e) h hx
  | lst e h => exact .lst (s _ _ e) h
  | dic e h hx => exact .dic (s _ _ e) h hx
theorem short_int {i : Int} (h : i.natAbs.log2 < 90) : (PyData.shown (.int i)).length ≤ 91 := by
  have z := int_text_length_le (by decide) h
  show (PySem.Str.ofString (toString i)).length ≤ 91
  rw [PySem.ofString_length]
  omega
theorem leaf_str {x : PySem.Str} (h : Few x) : (x.cps.toList.all fun c => decide (c < 16 ^ 8)) = true := List.all_eq_true.mpr fun c hc => decide_eq_true (h.2 c hc)
theorem int_weight {i : Int} (h : i.natAbs.log2 < 90) : (PyData.int i).weight ≤ 90 := by
  show (if i == 0 then 0 else i.natAbs.log2 + 1) ≤ 90
  split <;> omega
theorem str_weight {x : PySem.Str} (h : Few x) : (PyData.str x).weight ≤ 600 := h.1
theorem Kp.facts {H : Hp} {v : V} {d : PyData} (h : Kp H v d) : d.showable = true ∧ d.leavesShort 91 = true ∧ d.weight ≤ 700 ∧ d.depth ≤ 3 := by
  have sh : ∀ {i : Int}, i.natAbs.log2 < 90 → (PyData.int i).showable = true := fun {i} h => by simp only [PyData.showable]; exact decide_eq_true (by omega)
  have sl : ∀ {i : Int}, i.natAbs.log2 < 90 → (PyData.int i).leavesShort 91 = true := fun {i} h => by simp only [PyData.leavesShort]; exact decide_eq_true (short_int h)
  have ss : ∀ {x : PySem.Str}, Few x → (PyData.str x).leavesShort 91 = true := fun {x} h => by simp only [PyData.leavesShort]; exact leaf_str h
  have sv : ∀ {x : PySem.Str}, (PyData.str x).showable = true := fun {x} => by simp only [PyData.showable]
  cases h with
  | non => exact ⟨rfl, by decide +kernel, by decide +kernel, by decide +kernel⟩
  | bl b => cases b <;> exact ⟨rfl, by decide +kernel, by decide +kernel, by decide +kernel⟩
  | int i h => exact ⟨sh h, sl h, Nat.le_trans (int_weight h) (by decide), by simp [PyData.depth]⟩
  | str x h => exact ⟨sv, ss h, Nat.le_trans (str_weight h) (by decide), by simp [PyData.depth]⟩
  | @tup a n x e h hx =>
    have w1 := int_weight h; have w2 := str_weight hx
    refine ⟨by simp only [PyData.showable, PyData.showableAll, Bool.and_true]; exact decide_eq_true (by omega), ?_, ?_, by simp [PyData.depth, PyData.depthAll]⟩
    · have a1 := sl h; have a2 := ss hx
      simp only [PyData.leavesShort, PyData.leavesShortAll, Bool.and_true] at a1 a2 ⊢
      rw [a1, a2] <;> rfl
    · show (PyData.int n).weight + 1 + ((PyData.str x).weight + 1 + 0) ≤ 700
      omega
  | @lst a n e h =>
    have w1 := int_weight h
    refine ⟨by simp only [PyData.showable, PyData.showableAll, Bool.and_true]; exact decide_eq_true (by omega), ?_, ?_, by simp [PyData.depth, PyData.depthAll]⟩
    · have a1 := sl h
      simp only [PyData.leavesShort, PyData.leavesShortAll, Bool.and_true] at a1 ⊢
      exact a1
    · show (PyData.int n).weight + 1 + 0 ≤ 700
      omega
  | @dic a n x e h hx =>
    have w1 := int_weight h; have w2 := str_weight hx
    refine ⟨by simp only [PyData.showable, PyData.showableKv, Bool.and_true]; exact decide_eq_true (by omega), ?_, ?_, by simp [PyData.depth, PyData.depthKv]⟩
    · have a1 := sl h; have a2 := ss hx
      simp only [PyData.leavesShort, PyData.leavesShortKv, Bool.and_true] at a1 a2 ⊢
      rw [a1, a2] <;> rfl
    · show (PyData.int n).weight + (PyData.str x).weight + 2 + 0 ≤ 700
      omega
inductive KpAll (H : Hp) : List V → List PyData → Prop
  | nil : KpAll H [] []
  | cons {v : V} {vs : List V} {d : PyData} {ds : List PyData} : Kp H v d → KpAll H vs ds → KpAll H (v :: vs) (d :: ds)
theorem KpAll.facts {H : Hp} : ∀ {vs : List V} {ds : List PyData}, KpAll H vs ds → PyData.showableAll ds = true ∧ PyData.leavesShortAll 91 ds = true ∧ PyData.weightAll ds ≤ 701 * ds.length ∧ PyData.depthAll ds ≤ 3
  | _, _, .nil => ⟨rfl, rfl, by simp [PyData.weightAll], by simp [PyData.depthAll]⟩
  | _, _, .cons h t => by
    obtain ⟨a1, a2, a3, a4⟩ := h.facts
    obtain ⟨b1, b2, b3, b4⟩ := t.facts
    refine ⟨by simp [PyData.showableAll, a1, b1], by simp [PyData.leavesShortAll, a2, b2], ?_, ?_⟩
    · simp only [PyData.weightAll, List.length_cons]; omega
    · simp only [PyData.depthAll]; omega
section
variable {X : Cx} {pins : List (Addr × Obj)} {σ : L2.St} {H : Hp} {s : Shared}
theorem Kp.reads (I : Inv X pins σ H s) {v : V} {u : Value} {d : PyData} (h : Kp H v d) (r : RelV v u) : ∃ as, Reads s.heap u d as ∧ (d.hasDict = true → sysModules ∉ as) := by
  cases h with
  | non => cases r; exact ⟨_, .none, fun _ => by simp⟩
  | bl b => cases r; exact ⟨_, .bool b, fun _ => by simp⟩
  | int i h => obtain ⟨t, rfl⟩ := r; exact ⟨_, .int i t, fun _ => by simp⟩
  | str x h => obtain ⟨t, rfl⟩ := r; exact ⟨_, .str x t, fun _ => by simp⟩
  | tup e h hx =>
    cases r
    obtain ⟨its, rv, ⟨o, ho, hc, n, hd⟩, _⟩ := I.tuple (SqT.of e)
    cases rv with
    | cons r1 t1 => cases t1 with
      | cons r2 t2 =>
        cases t2
        obtain ⟨t, rfl⟩ := r1; obtain ⟨t', rfl⟩ := r2
        exact ⟨_, .tuple ho hc hd (.cons (.int _ t) (.cons (.str _ t') .nil)), fun _ => by simp⟩
  | lst e h =>
    cases r
    obtain ⟨its, rv, ⟨o, n, ho, hc, _, hd⟩, _⟩ := I.list (SqL.of e)
    cases rv with
    | cons r1 t1 =>
      cases t1
      obtain ⟨t, rfl⟩ := r1
      exact ⟨_, .list ho hc hd (.cons (.int _ t) .nil), PyData.noDict_hsm (by simp [PyData.hasDict, PyData.hasDictAll])⟩
  | dic e h hx =>
    cases r
    obtain ⟨_, hs, vs, kv, o, es, ep, ho, hx2, hd, _, hp, _⟩ := (show ObjOk X.prog X.w H s.heap _ (.dK _) from I.hok _ _ e)
    cases kv with
    | @cons _ q _ _ hkv t1 =>
      cases t1
      obtain ⟨hk, hv⟩ := hkv
      obtain ⟨k0, v0⟩ := q
      dsimp only at hk hv
      subst hk
      obtain ⟨t', rfl⟩ := hv
      obtain ⟨es⟩ := es
      cases hp with
      | @cons en _ _ _ h1 h2 h3 =>
        cases h3
        obtain ⟨t, et⟩ := Value.isInt_shape (k := _) (v := en.key) h1
        have ev : en.val = Value.str _ t' := h2
        refine ⟨_, Reads.dict (as := [] ++ []) (bs := [] ++ []) ho hx2.1 hd ?_ ?_, fun _ => by simpa using (beq_eq_false_iff_ne.mp hs).symm⟩
        · show ReadsAll _ [en.key] _ _
          rw [et]
          exact .cons (.int _ t) .nil
        · show ReadsAll _ [en.val] _ _
          rw [ev]
          exact .cons (.str _ t') .nil
theorem Kp.fits {H : Hp} {v : V} {d : PyData} (h : Kp H v d) : d.shown.length ≤ 70000 := by
  obtain ⟨_, f2, f3, _⟩ := h.facts
  have z := PyData.shown_le 91 (by decide) d f2
  have : (91 + 2) * d.weight ≤ (91 + 2) * 700 := Nat.mul_le_mul_left _ f3
  omega
/-- the items' texts -/
theorem KpAll.reads {prog : Program} {w : World} (I : Inv X pins σ H s) : ∀ {vs : List V} {ds : List PyData} {us : List Value}, KpAll H vs ds → Vals vs us →
    ∃ as bs, ReadsAll s.heap us ds as ∧ ReadAtMost s.heap (PyData.depthAll ds) bs ∧ ReprAllK prog w bs s.heap (PyData.depthAll ds) us (PyData.shownAll ds)
  | _, _, _, .nil, .nil => ⟨_, [], .nil, (fun _ h => nomatch h), by simp only [PyData.shownAll]; exact .nil⟩
  | _, _, _, .cons (d := d) (ds := ds) h t, .cons r1 r2 => by
    obtain ⟨as, q1, n1⟩ := h.reads I r1
    obtain ⟨cs, b2, q2, hb2, k2⟩ := KpAll.reads (prog := prog) (w := w) I t r2
    obtain ⟨b1, hb1, k1⟩ := ReprK.of_reads (prog := prog) (w := w) q1 h.facts.1 n1 (by have z := h.fits; rw [sizeLine_eq]; omega)
    refine ⟨_, b1 ++ b2, .cons q1 q2, fun b hm => ?_, ?_⟩
    · simp only [PyData.depthAll]
      rcases List.mem_append.mp hm with hm | hm
      · obtain ⟨d', as', r', hd'⟩ := hb1 b hm; exact ⟨d', as', r', Nat.le_trans hd' (Nat.le_max_left _ _)⟩
      · obtain ⟨d', as', r', hd'⟩ := hb2 b hm; exact ⟨d', as', r', Nat.le_trans hd' (Nat.le_max_right _ _)⟩
    · simp only [PyData.depthAll, PyData.shownAll]
      exact .cons ((k1.more fun b hb => List.mem_append_left _ hb).level_le (Nat.le_max_left _ _)) (k2.more_le (fun b hb => List.mem_append_right _ hb) (Nat.le_max_right _ _))
end
def rRepr : List V → Hp → VK → Prop := fun xs H Q => ∃ (l : Addr) (v : V) (vs : List V) (ds : List PyData), xs = [.ref l] ∧ H l = some (.lst (v :: vs)) ∧ KpAll H (v :: vs) ds ∧ ds.length ≤ 100 ∧ Q (.str (PyData.list ds).shown) H
theorem call_repr {X : Cx} {k : Nat} (hg : X.A.guards = some []) (hr : Room k X.A) : CallR X (.builtin "repr") rRepr := by
  intro pins s σ H xs us Q I r h
  obtain ⟨l, v, vs, ds, rfl, hl, hk, hz, q⟩ := h
  obtain ⟨u, rfl, ru⟩ := vals1 r
  obtain rfl : u = Value.ref l := ru
  obtain ⟨its, rv, ⟨o, n, ho, hc, _, hd⟩, _⟩ := I.list (SqL.of hl)
  obtain ⟨as, bs, hr', hb, hkk⟩ := hk.reads (prog := X.prog) (w := X.w) I rv
  obtain ⟨f1, f2, f3, f4⟩ := hk.facts
  have hu := hr.units
  have hsz : (PyData.list ds).shown.length ≤ sizeLine := by
    have z := PyData.shown_le 91 (by decide) (.list ds) (by simpa [PyData.leavesShort] using f2)
    have w1 : (PyData.list ds).weight ≤ 701 * ds.length := by simp only [PyData.weight]; omega
    rw [sizeLine_eq]
    have : (91 + 2) * (PyData.list ds).weight ≤ (91 + 2) * 70100 := Nat.mul_le_mul_left _ (by omega)
    omega
  have hsz' : (listText (PyData.shownAll ds)).length ≤ sizeLine := by simpa only [PyData.shown] using hsz
  have rr : Reads s.heap (.ref l) (.list ds) _ := Reads.list ho hc hd hr'
  have hna : l ∉ bs := not_mem_of_deeper rr (by simp only [PyData.depth]; omega) hb
  cases rv with
  | cons r1 r2 =>
    have hlen := hkk.length_eq
    refine call_repr_slot (by omega) (⟨o, ho, hc⟩ : s.TypeIs (.ref l) "list") F.slot_list_repr.toG (call_list_reprK (h₀ := s.heap) ho hc hd hna (by simpa using hlen) (fun i y e => hkk.item i y (by simpa using e)) (A := X.A.in1) hg (fun b _ => Clear.nil b)
      (by show X.A.units + 1 + (PyData.depthAll ds + 1) < cLine; omega) (fun _ _ e => e) (fun h' u tk hk' => ⟨_, _, rfl, .str (PyData.list ds).shown, H, I.kept (t' := tk) hk', ⟨u, ?_⟩, q⟩) hsz')
    simp only [PyData.shown]

/-! ### a def that is called where no repr is under way -/
structure FnG (P : Program) (w : World) (K : PySem.W.Frag) (mg : PySem.Str → Option Value) (base : Heap) (k : Nat) (f : Addr) (fd : FuncData) (ps : List PySem.Str) (sp : Sp) : Prop where
  len : ∀ vs H Q E, sp vs H Q E → vs.length = ps.length
  run : ∀ (A : Around) (outer : List Env) (s : Shared) (H : Hp) (args : Args) (us : List Value) (vs : List V) (Q : VK) (E : XK), A.guards = some [] → Room k A → Env0 P w K mg base A outer s H → BindsTo s fd args (ps.zip us) → Vals vs us → sp vs H Q E →
    codeAny (model P w) A (.call (.ref f) args) (CR CX0 outer P w H s Q E) s
theorem fng_of {P : Program} {w : World} {K : PySem.W.Frag} {mg : PySem.Str → Option Value} {base : Heap} {k : Nat} {f : Addr} {x qual : PySem.Str} {st : Stmt} {fd : FuncData} {N ps : List PySem.Str} {sp : Sp} (F : Fun K x qual st f fd) (S : FnScope N ps (defScope st)) (len : ∀ vs H Q E, sp vs H Q E → vs.length = ps.length)
    (hbody : ∀ (cdv : Value) (A : Around) (outer : List Env) (s : Shared) (H : Hp) (vs : List V) (Q : VK) (E : XK), A.guards = some [] → Room k (A.deeper (envOfC qual (defScope st) s.heap.objs.size f cdv)) → sp vs H Q E →
      ∃ t, PSs (cxOf CX0 P w K mg base N qual (defScope st) f cdv A outer s H E).nox (defBody st) t ∧ t { nx := fun _ H' => Q .non H', rt := Q } (start N vs) H) : FnG P w K mg base (k + 1) f fd ps sp := by
  obtain ⟨oc, od, kV, doc, pm, an, cdv, ct, osl, rfl, lk, hcd⟩ := F.ex
  refine ⟨len, fun A outer s H args us vs Q E hg hr e0 hb r hsp => ?_⟩
  have hl := len _ _ _ _ hsp
  have KX : K.In s.heap := e0.mod.kin.keeps fun b o e => (e0.bs b o e).1
  have lim : s.heap.NoLimit := e0.mod.nolimit.keeps fun b o e => (e0.bs b o e).1
  have hkind : ∀ y ∈ ps.zip us, (defScope st).names.lookup y.1 = some .local ∨ ((defScope st).names.lookup y.1 = some .cell ∧ ((cellsFrom (s.heap.objs.size + 1) (defScope st).names []).lookup y.1).isSome = true) := fun ⟨n, v⟩ hy => by
    rcases S.par n (List.of_mem_zip hy).1 with q | q
    · exact .inl q
    · exact .inr ⟨q, PySem.W.cellsFrom_some _ _ _ (.inl q)⟩
  refine codeAny_call_function hr.depth (KX _ _ lk) rfl S.co S.gen rfl (PySem.W.codeRec_of KX hcd) (hb _ _ _ _ ?_)
  refine wpAny_newFunctionEnv_cells S.kind hkind fun env he s1 x => ?_
  subst he
  refine ⟨lim.keeps x.toInCall.keep, codeAny_func ?_⟩
  obtain ⟨t, ht0, hq⟩ := hbody cdv A outer s H vs Q E hg (hr.deeper _) hsp
  have ht := ht0.nox
  have I : Inv (cxOf CX0 P w K mg base N qual (defScope st) f cdv A outer s H E) [] (start N vs) H s1 := inv_start S hr.hd e0 hl r x
  refine wpAny_mono (ht.run [] s1 (start N vs) H _ I hq) (fun fl s' hs => ?_) fun e s' hs => hs
  have fin : ∀ {σ' : L2.St} {H' : Hp} {v : V} {u : Value}, Inv (cxOf CX0 P w K mg base N qual (defScope st) f cdv A outer s H E) [] σ' H' s' → RelV v u → Q v H' → CE outer P w H s Q u s' := fun {σ' H' v u} J rv q => ⟨v, H', J.os, J.bare, J.base, J.hok, rv, q⟩
  cases fl with
  | ret u => obtain ⟨v, σ', H', J, rv, q⟩ := hs; exact fin J rv q
  | next => obtain ⟨σ', H', J, q⟩ := hs; exact fin (v := V.non) (u := Value.none) J rfl q
  | brk => obtain ⟨_, _, _, q⟩ := hs; exact False.elim q
  | cont => obtain ⟨_, _, _, q⟩ := hs; exact False.elim q
/-- f(e, ..) of such a def -/
theorem pe_callG {X : Cx} {x : PySem.Str} {f : Addr} {k : Nat} {fd : FuncData} {ps : List PySem.Str} {sp : Sp} {e : Expr} {es : List Expr} {t : TA} {p pos : Pos} (F : FnG X.prog X.w X.K X.mg X.base k f fd ps sp) (hgd : X.A.guards = some []) (hr : Room k X.A) (hg : Gl X x) (hm : X.mg x = some (.ref f)) (hk : PySem.W.keepIn X.K (.ref f) = true) (hb : Binds X.K fd ps [])
    (ha : PA X (e :: es) t) (hdb : (x == ("__debug__" : PySem.Str)) = false := by decide) (he : starEach (e :: es) X.env = (false, eval e X.env) :: starEach es X.env := by rfl) (hpl : (backTo pos (starEach es X.env)).any (·.1) = false := by rfl) :
    PE X (.Call (.Name x p) (e :: es) [] pos) (fun σ H Q => t σ H fun vs H1 => sp vs H1 Q E0) := by
  refine ⟨fun pins s σ H Q I h => ?_⟩
  refine wpAny_Call_Name_kw (ld_glob I hg hm ?_ hdb)
  refine PySem.W.callWith_K (h₀ := X.base) I.ok.mod.kin hk (thn (ha.run pos pins s σ H _ I h) fun us s1 ⟨vs, H1, I1, r, q⟩ => ⟨I1.kIn, ?_⟩) he hpl
  have hl : us.length = ps.length := by rw [← r.length]; exact F.len _ _ _ _ q
  refine wpAny_call (codeAny_mono (F.run X.A X.stack s1 H1 ⟨us, []⟩ us vs Q E0 hgd hr I1.env0 (by simpa using hb s1 us I1.kIn (by simpa using hl)) r q) fun r s' hq => ?_)
  cases r with
  | error e => exact hq.elim
  | ok fl =>
    cases fl with
    | ret u => exact I1.after hq
    | next => exact False.elim hq
    | brk => exact False.elim hq
    | cont => exact False.elim hq

/-! ### numbers -/
section
variable {X : Cx}
theorem op_powX : OpR X (binaryOp .Pow) (rI (fun i j => 0 ≤ j ∧ (Builtin.Int.intBits i : Int) * j ≤ 2 ^ 27) fun i j => .int (i ^ j.toNat)) := opI fun _ _ _ _ _ _ _ hc q => pow_int hc.1 hc.2 q
/-- a text of one sign or more, a number of times -/
def rTimes : R2 := fun x y H Q => ∃ (z : PySem.Str) (n : Int), x = .str z ∧ y = .int n ∧ 0 ≤ n ∧ n ≤ 1000 ∧ z.length ≤ 1000 ∧ ∀ o : PySem.Str, o.length ≤ z.length * n.toNat → (∀ c ∈ o.cps.toList, c ∈ z.cps.toList) → Q (.str o) H
theorem foldl_rep (z : Array Nat) : ∀ (n : Nat) (acc : Array Nat), ((List.replicate n z).foldl (· ++ ·) acc).size = acc.size + n * z.size ∧ ∀ c ∈ ((List.replicate n z).foldl (· ++ ·) acc).toList, c ∈ acc.toList ∨ c ∈ z.toList
  | 0, acc => ⟨by simp, fun c h => .inl (by simpa using h)⟩
  | n + 1, acc => by
    obtain ⟨h1, h2⟩ := foldl_rep z n (acc ++ z)
    rw [List.replicate_succ, List.foldl_cons]
    refine ⟨by rw [h1, Array.size_append, Nat.succ_mul]; omega, fun c h => ?_⟩
    rcases h2 c h with q | q
    · rw [Array.toList_append, List.mem_append] at q; exact q
    · exact .inr q
theorem op_times : OpR X (binaryOp .Mult) rTimes := by
  intro pins s σ H x y v u Q I rx ry h
  obtain ⟨z, n, rfl, rfl, h0, h1, hz, q⟩ := h
  obtain ⟨t, rfl⟩ := rx
  obtain ⟨t', rfl⟩ := ry
  have hmul : z.length * n.toNat ≤ 1000 * 1000 := Nat.mul_le_mul hz (by omega)
  refine PySem.P.mul_str (by rw [decide_eq_false (by omega), decide_eq_false (by omega)] <;> rfl) (fun a b => ?_) (fun a b => ?_) ?_
  · have : (1000 : Int) ≤ (2 ^ 63 - 1) / n := by
      rw [Int.le_ediv_iff_mul_le (by omega)]
      have : 1000 * n ≤ 1000 * 1000 := by omega
      omega
    omega
  · refine decide_eq_false ?_
    rw [sizeLine_eq]; omega
  · split
    · rename_i hlt
      refine ⟨by decide, ?_⟩
      exact ⟨.str PySem.Str.empty, H, I.tok _, ⟨_, rfl⟩, q _ (Nat.zero_le _) (fun c hc => by cases hc)⟩
    · split
      · rename_i hge heq
        refine ⟨.str z, H, I, ⟨_, rfl⟩, q _ ?_ (fun c hc => hc)⟩
        rcases Nat.lt_or_ge 0 n.toNat with hp | hp
        · exact Nat.le_mul_of_pos_right _ hp
        · omega
      · obtain ⟨f1, f2⟩ := foldl_rep z.cps n.toNat #[]
        refine ⟨?_, ?_⟩
        · show ((List.replicate n.toNat z.cps).foldl (· ++ ·) #[]).size ≤ sizeLine
          rw [f1, sizeLine_eq]
          have : n.toNat * z.cps.size ≤ 1000 * 1000 := Nat.mul_le_mul (by omega) hz
          simp; omega
        · refine ⟨.str _, H, I.tok _, ⟨_, rfl⟩, q _ ?_ (fun c hc => ?_)⟩
          · show ((List.replicate n.toNat z.cps).foldl (· ++ ·) #[]).size ≤ z.cps.size * n.toNat
            rw [f1, Nat.mul_comm]; simp
          · rcases f2 c hc with e | e
            · cases e
            · exact e
end
end K0

/-! An own exception with its own __init__ raised; a try with two clauses, the second with a name. -/
namespace K1
open PySem PySem.Spec PyProof.Rows L2 K0

theorem pmk_exi {X : Cx} {x : PySem.Str} {C fI : Addr} {k : Nat} {fd : FuncData} {ps : List PySem.Str} {B Bn newId initN : String} {bmB : List Value} {f : PySem.Str} {e : Expr} {ta : TE} {p pos : Pos} (FB : ExcBaseFacts Bn newId initN bmB) (T : OwnX X.K C B Bn newId f)
    (exC : PySem.W.subIn X.K (.ref C) (.type "BaseException") = some true) (tyC : PySem.W.typeIn X.K (.ref C) = some (.type "type"))
    (iC : PySem.W.findIn X.K (.ref C) "__init__" = some (some (.ref fI))) (tI : PySem.W.typeIn X.K (.ref fI) = some (.type "function")) (F1 : FnOk X.prog X.w X.K X.mg X.base CX0 k fI fd ps (spInit X.K B Bn newId f)) (hr : Room (k + 1) X.A) (hb : Binds X.K fd ps [])
    (hg : Gl X x) (hm : X.mg x = some (.ref C)) (ha : PE X e ta) (hdb : (x == ("__debug__" : PySem.Str)) = false := by decide) (he : starEach [e] X.env = (false, eval e X.env) :: starEach [] X.env := by rfl) :
    PMk X (.Call (.Name x p) [e] [] pos) (fun σ H Q => ta σ H fun v H1 => ∀ d, H1 d = none → Q (.ref C) (some d) (upd H1 d (.xd [(f, v)]))) := by
  intro pins s σ H Q I h
  obtain ⟨nm, q, N, bs, bm, sn, sub, ab, col, dd, k0, k1, k2, k3, k5, hC, t1, t2, t3, t4⟩ := T.cls
  refine wpAny_Call_Name_kw (ld_glob I hg hm ?_ hdb)
  refine PySem.W.callWith_K (h₀ := X.base) I.ok.mod.kin T.kC ?_ he (by rfl)
  rw [he]
  show wpAny _ _ (spliced ((false, eval e X.env) :: backTo pos (starEach [] X.env))) _ _ s
  refine Calls.spliced_cons (thn (ha.run pins s σ H _ I h) fun u s1 ⟨v, H1, I1, r1, q1⟩ => ?_)
  refine Calls.spliced_nil ⟨I1.kIn, ?_⟩
  show wpAny _ _ (call (.ref C) [u]) _ _ _
  obtain ⟨hp, g, dr, tk, os⟩ := s1
  have hsz : hp.objs.size ≤ hp.objs.size + 1 := Nat.le_succ _
  have hn : H1 (hp.objs.size + 1) = none := I1.hok.fresh hsz
  have kk : ∀ b o, hp.get? b = some o → ((hp.push (PySem.W.kdv_tup [u])).push (PySem.HandSPX.excO C hp.objs.size)).get? b = some o := fun b o e => Heap.get?_push_of_some _ (Heap.get?_push_of_some _ e)
  have hget : ((hp.push (PySem.W.kdv_tup [u])).push (PySem.HandSPX.excO C hp.objs.size)).get? (hp.objs.size + 1) = some (PySem.HandSPX.excO C hp.objs.size) := by heap_get
  have I2 : Inv X pins σ (upd H1 (hp.objs.size + 1) (exo (hp.objs.size + 1) C none)) ⟨(hp.push (PySem.W.kdv_tup [u])).push (PySem.HandSPX.excO C hp.objs.size), g, dr, tk, os⟩ := I1.laid (t' := tk) kk hsz (exo_ok hget)
  have r2 : Vals [V.ref (hp.objs.size + 1), v] [Value.ref (hp.objs.size + 1), u] := .cons rfl (.cons r1 .nil)
  have hq : spInit X.K B Bn newId f [.ref (hp.objs.size + 1), v] (upd H1 (hp.objs.size + 1) (exo (hp.objs.size + 1) C none)) (fun z H2 => z = .non ∧ ∃ d, H1 d = none ∧ d ≠ hp.objs.size + 1 ∧ H2 = upd (upd H1 d (exd d [(f, v)])) (hp.objs.size + 1) (exo (hp.objs.size + 1) C (some d))) E0 := by
    refine ⟨_, C, v, rfl, T, upd_same, fun d hd hne => ⟨rfl, d, by rw [upd_ne hne] at hd; exact hd, hne, ?_⟩⟩
    funext b
    by_cases hb : b = hp.objs.size + 1
    · rw [hb, upd_same, upd_same]
    · rw [upd_ne hb, upd_ne hb]
      by_cases hbd : b = d
      · rw [hbd, upd_same, upd_same]
      · rw [upd_ne hbd, upd_ne hbd, upd_ne hb]
  have hl : ([Value.ref (hp.objs.size + 1), u] ++ []).length = ps.length := by have z := F1.len _ _ _ _ hq; exact z
  refine wpAny_call (call_ex FB t1 (I1.kIn _ _ hC) (PySem.W.looks_findIn I1.kIn iC) (fun self => PySem.W.bind_fn I1.kIn self tI) (by show 1 ≤ sizeLine; rw [sizeLine_eq]; omega)
    (codeAny_mono (F1.run _ X.stack _ _ ⟨[Value.ref (hp.objs.size + 1), u], []⟩ [Value.ref (hp.objs.size + 1), u] _ _ (fun _ _ _ => False) (hr.make C [u] []) (I2.env0.make C [u] []) (by simpa using hb _ [Value.ref (hp.objs.size + 1), u] I2.kIn hl) r2 hq) fun r s' hq' => ?_))
  cases r with
  | error er => exact hq'.elim
  | ok fl =>
    cases fl with
    | ret w =>
      obtain ⟨z, H2, os2, bare2, un2, hok2, rz, ez, d, hd, hne, eH⟩ := hq'
      subst ez
      obtain ⟨h2, g2, d2, t2, os'⟩ := s'
      have ea : H2 (hp.objs.size + 1) = some (exo (hp.objs.size + 1) C (some d)) := by rw [eH, upd_same]
      have ed : H2 d = some (exd d [(f, v)]) := by rw [eH, upd_ne hne, upd_same]
      have eq : upd (del H2 (hp.objs.size + 1)) d (.xd [(f, v)]) = upd H1 d (.xd [(f, v)]) := by
        funext b
        by_cases hbd : b = d
        · rw [hbd, upd_same, upd_same]
        · rw [upd_ne hbd, upd_ne hbd]
          by_cases hb : b = hp.objs.size + 1
          · rw [hb, del_same, hn]
          · rw [del_ne hb, eH, upd_ne hb, upd_ne hbd]
      exact ⟨rz, mk_end (raises_own exC tyC) I1 hsz kk un2 hok2 os2 bare2 ea ed hd (by rw [eq]; exact q1 d hd)⟩
    | next => exact False.elim hq'
    | brk => exact False.elim hq'
    | cont => exact False.elim hq'
/-- two clauses, one of which is taken; the second has a name -/
def wTwo (K : PySem.W.Frag) (c1 : Value) (ts1 : Addr → Value → Option Addr → TS) (c2 : Value) (i : Nat) (ts2 : Addr → Value → Option Addr → TS) (D : Ends) : WX := fun cls d σ H =>
  (PySem.W.exmOne K cls c1 = some true ∧ ∀ a, H a = none → ts1 a cls d D σ H) ∨ (PySem.W.exmOne K cls c1 = some false ∧ wAs K c2 i ts2 (fun _ _ _ _ => False) D cls d σ H)
section
variable {X : Cx}
/-- how a suite's way out reads behind the suite -/
theorem out_plain {a : Addr} {oe : Obj} {pins : List (Addr × Obj)} {D : Ends} {fl : Flow} {t : Shared} (ok : X.Ok) (h : SP (X.suite a ((a, oe) :: (X.pn ++ pins))) [] D fl t) : SP X pins D fl t := by
  cases fl with
  | ret u => exact let ⟨v, σ1, H1, J, rv, q⟩ := h; ⟨v, σ1, H1, J.unsuite ok, rv, q⟩
  | next => exact let ⟨σ1, H1, J, q⟩ := h; ⟨σ1, H1, J.unsuite ok, q⟩
  | brk => exact let ⟨σ1, H1, J, q⟩ := h; ⟨σ1, H1, J.unsuite ok, q⟩
  | cont => exact let ⟨σ1, H1, J, q⟩ := h; ⟨σ1, H1, J.unsuite ok, q⟩
/-- the same where a name is let go -/
theorem out_named {a : Addr} {oe : Obj} {i : Nat} {n : PySem.Str} {p : Pos} {pins : List (Addr × Obj)} {D : Ends} {fl : Flow} {t : Shared} (ok : X.Ok) (nd : X.N.Nodup) (at_ : X.N[i]? = some n) (lo : X.env.kindOf n = some .local)
    (h : SP (X.suite a ((a, oe) :: (X.pn ++ pins))) [] { nx := fun σ' H' => D.nx (σ'.set i none) H', rt := D.rt, bk := fun σ' H' => D.bk (σ'.set i none) H', ct := fun σ' H' => D.ct (σ'.set i none) H' } fl t) :
    wpAny (model X.prog X.w) X.A (do bindName X.env n .none; unbindBehindTheSuite X.env n p) (fun _ t' => SP X pins D fl t') X.xe t := by
  cases fl with
  | ret u => obtain ⟨v, σ1, H1, J, rv, q⟩ := h; exact gone_ok (J.unsuite ok) nd at_ lo fun _ J' => ⟨v, _, H1, J', rv, q⟩
  | next => obtain ⟨σ1, H1, J, q⟩ := h; exact gone_ok (J.unsuite ok) nd at_ lo fun _ J' => ⟨_, H1, J', q⟩
  | brk => obtain ⟨σ1, H1, J, q⟩ := h; exact gone_ok (J.unsuite ok) nd at_ lo fun _ J' => ⟨_, H1, J', q⟩
  | cont => obtain ⟨σ1, H1, J, q⟩ := h; exact gone_ok (J.unsuite ok) nd at_ lo fun _ J' => ⟨_, H1, J', q⟩
/-- the body's own way out, read without the try -/
theorem out_body {pins p2 : List (Addr × Obj)} {xe : Value → Shared → Prop} {D : Ends} {fl : Flow} {t : Shared} (ok : X.Ok) (h : SP (X.tr p2 xe) [] D fl t) (back : ∀ {σ H}, Inv (X.tr p2 xe) [] σ H t → Inv X pins σ H t) : SP X pins D fl t := by
  cases fl with
  | ret u => exact let ⟨v, σ1, H1, J, rv, q⟩ := h; ⟨v, σ1, H1, back J, rv, q⟩
  | next => exact let ⟨σ1, H1, J, q⟩ := h; ⟨σ1, H1, back J, q⟩
  | brk => exact let ⟨σ1, H1, J, q⟩ := h; ⟨σ1, H1, back J, q⟩
  | cont => exact let ⟨σ1, H1, J, q⟩ := h; ⟨σ1, H1, back J, q⟩
/-- a caught exception is no frame of those that run -/
theorem not_a_frame {B : Heap} {l : List Env} {h : Heap} {a : Addr} {o : Obj} {vs : Array Value} (ff : h.FunFrames B l) (e : h.get? a = some o) (d : o.data = .fields vs) : a ∉ frs l := fun hm =>
  let ⟨_, o', e', no⟩ := ff.mem hm
  no _ ((congrArg Obj.data (Option.some.inj (e'.symm.trans e))).trans d)
variable {x y n : PySem.Str} {c1 c2 : Value} {i : Nat} {body su1 su2 : List Stmt} {b1 b2 : Stmt} {q1 q2 pos pos1 pos2 : Pos} {tb : WX → TS} {ts1 ts2 : Addr → Value → Option Addr → TS}
theorem ps_try_two (hs : X.stack = X.env :: X.outer) (hf : X.env.frame = some X.env.locals) (nd : X.N.Nodup) (at_ : X.N[i]? = some n) (lo : X.env.kindOf n = some .local) (k1 : Names X x c1) (k2 : Names X y c2)
    (hb : ∀ (W : WX) (pn : List (Addr × Obj)) (xe : Value → Shared → Prop), Takes (X.tr pn xe) W → PSs (X.tr pn xe) body (tb W))
    (s1 : ∀ (a : Addr) (oe : Obj) (cls : Value) (d : Option Addr) (pn : List (Addr × Obj)), Zc cls d oe → (∃ vs, oe.data = .fields vs) → PSs (X.suite a ((a, oe) :: pn)) (b1 :: su1) (ts1 a cls d))
    (s2 : ∀ (a : Addr) (oe : Obj) (cls : Value) (d : Option Addr) (pn : List (Addr × Obj)), Zc cls d oe → (∃ vs, oe.data = .fields vs) → PSs (X.suite a ((a, oe) :: pn)) (b2 :: su2) (ts2 a cls d)) :
    PS X (.Try body [.ExceptHandler (some (.Name x q1)) none (b1 :: su1) pos1, .ExceptHandler (some (.Name y q2)) (some n) (b2 :: su2) pos2] [] [] pos) (fun D σ H => tb (wTwo X.K c1 ts1 c2 i ts2 D) D σ H) := by
  refine ⟨fun pins s σ H D I reading => wpAny_Try_except ?_⟩
  have ok := I.ok
  have frames : X.A.frames = some (X.env :: X.outer) := hs ▸ ok.frames
  refine wpAny_mono ((hb (wTwo X.K c1 ts1 c2 i ts2 D) (X.pn ++ pins) (fun e t₁ => wpAny (model X.prog X.w) X.A (noteFrame e X.env) (fun _ t₂ => wpAny (model X.prog X.w) X.A (setFlight e none) (fun _ t₃ =>
    wpAny (model X.prog X.w) X.A (handleBy e X.env [.ExceptHandler (some (.Name x q1)) none (b1 :: su1) pos1, .ExceptHandler (some (.Name y q2)) (some n) (b2 :: su2) pos2]) (SP X pins D) X.xe t₃) X.xe t₂) X.xe t₁) (fun u t thrown => ?_)).run [] s σ H D (I.toTry _) reading) (fun fl t done => ?_) (fun _ _ r => r)
  case refine_2 =>
    cases fl with
    | next => exact wpAny_execs_nil (out_body (fl := .next) ok done fun J => J.ofTry ok)
    | ret u => exact out_body (fl := .ret u) ok done fun J => J.ofTry ok
    | brk => exact out_body (fl := .brk) ok done fun J => J.ofTry ok
    | cont => exact out_body (fl := .cont) ok done fun J => J.ofTry ok
  obtain ⟨a, B, t0, ps, σ1, H1, cls, d, rfl, JT, nob, up, sky, free, same, bare, wish⟩ := thrown
  have J : Inv X pins σ1 H1 t0 := JT.ofTry ok
  rw [show (X.tr (X.pn ++ pins) _).stack = X.env :: X.outer from hs] at sky
  show wpAny (model X.prog X.w) X.A (noteFrame (.ref a) X.env) _ _ _
  refine Sky.land Zc.steady frames hf sky fun h3 fly up3 => ?_
  obtain ⟨oe, vs, at3, z3, f3⟩ := fly.there
  have J3 : Inv X pins σ1 H1 { t with heap := h3 } := J.landed nob fly.1 (up.trans up3) same bare
  have out : a ∉ frs (X.env :: X.outer) := not_a_frame fly.2.2.1 at3 f3
  have o1 : a ≠ X.env.locals := fun e => out (List.mem_filterMap.mpr ⟨_, .head _, hf.trans (congrArg some e.symm)⟩)
  have o2 : a ∉ X.fs := fun m => let ⟨e, he, q⟩ := List.mem_filterMap.mp m
    out (List.mem_filterMap.mpr ⟨e, .tail _ he, q⟩)
  have J4 := J3.suite at3 f3 free o1 o2
  have looks : PySem.W.Looks (model X.prog X.w) h3 (typeOf (.ref a)) cls := fun _ _ _ _ kp g => wpAny_typeOf_ref (kp _ _ at3) (z3.1.symm ▸ g)
  have asked : ∀ {z : PySem.Str} {c : Value} {p : Pos} {Q E : Value → Shared → Prop}, Names X z c → Q c { t with heap := h3 } → wpAny (model X.prog X.w) (X.A.mark (some (.ref a))) (eval (.Name z p) X.env) Q E { t with heap := h3 } := by
    rintro z c p Q E ⟨glo, dbg, here | ⟨here, boot, nn⟩⟩ q
    · exact ld_glob (X := X.suite a ((a, oe) :: (X.pn ++ pins))) J4 glo here q dbg
    · exact ld_blt (X := X.suite a ((a, oe) :: (X.pn ++ pins))) J4 glo here boot q nn dbg
  refine wpAny_handleBy_cons (codeAny_handlers_test (asked k1 ?_)) nofun
  rcases wish with ⟨yes, go⟩ | ⟨no, b, e2, go, stop⟩
  · refine (PySem.W.exm_one (M := model X.prog X.w) J3.kIn looks yes).here (codeAny_handlers_suite (HandSPX.lands_againZ fly fun h4 fly4 up4 => ?_))
    obtain ⟨oe4, vs4, at4, z4, f4⟩ := fly4.there
    have K5 : Inv X pins σ1 H1 { t with heap := h4 } := J.landed nob fly4.1 ((up.trans up3).trans up4) same bare
    have J5 := K5.suite at4 f4 free o1 o2
    exact wpAny_mono ((s1 a oe4 cls d (X.pn ++ pins) z4 ⟨_, f4⟩).run [] _ σ1 H1 D J5 (go a free)) (fun fl t' h => out_plain ok h) (fun _ _ z => z.elim)
  · refine (PySem.W.exm_one (M := model X.prog X.w) J3.kIn looks no).here ?_
    show wpAny _ X.A (handleBy (.ref a) X.env [.ExceptHandler (some (.Name y q2)) (some n) (b2 :: su2) pos2]) _ _ _
    refine wpAny_handleBy_cons (codeAny_handlers_test (asked k2 ?_)) nofun
    refine (PySem.W.exm_one (M := model X.prog X.w) J3.kIn looks e2).here ?_
    cases b with
    | false => exact (stop rfl).elim
    | true =>
      refine codeAny_handlers_suite_as (HandSPX.lands_againZ fly fun h4 fly4 up4 => ?_)
      obtain ⟨oe4, vs4, at4, z4, f4⟩ := fly4.there
      have K5 : Inv X pins σ1 H1 { t with heap := h4 } := J.landed nob fly4.1 ((up.trans up3).trans up4) same bare
      have J5 := K5.suite at4 f4 free o1 o2
      exact store_ok (X := X.suite a ((a, oe4) :: (X.pn ++ pins))) (v := .ref a) J5 nd at_ (.inl lo) rfl (fun t' J6 => wpAny_mono ((s2 a oe4 cls d (X.pn ++ pins) z4 ⟨_, f4⟩).run [] t' _ H1 _ J6 (go rfl a free)) (fun fl t2 h => out_named ok nd at_ lo h) (fun _ _ z => z.elim)) (.inr lo)
end
end K1

/-! _check_words, _kept_words where the words are not fine. -/
namespace M46
open PySem PySem.Spec PyProof.Rows L2 R0 K1

/-- X('m'), X under a class of the program's own, made to be raised -/
theorem pmk_exm {X : Cx} {C : Addr} {bmB : List Value} {B newId initId : String} {x : PySem.Str} {e : Expr} {ta : TE} {p pos : Pos} (F : ExcBaseFacts B newId initId bmB) (q : PySem.W.excInitIn X.K C bmB newId = true)
    (hi : PySem.W.findIn X.K (.ref C) "__init__" = some (some (.builtin initId))) (exC : PySem.W.subIn X.K (.ref C) (.type "BaseException") = some true) (tyC : PySem.W.typeIn X.K (.ref C) = some (.type "type")) (gC : X.mg x = some (.ref C)) (kC : PySem.W.keepIn X.K (.ref C) = true) (hg : Gl X x) (he : PE X e ta)
    (hs : starEach [e] X.env = (false, eval e X.env) :: starEach [] X.env := by rfl) (hdb : (x == ("__debug__" : PySem.Str)) = false := by decide) :
    PMk X (.Call (.Name x p) [e] [] pos) (fun σ H Q => ta σ H fun _ H1 => Q (.ref C) none H1) := by
  intro pins s σ H Q I h
  refine wpAny_Call_Name_kw (ld_glob I hg gC ?_ hdb)
  refine PySem.W.callWith_K (h₀ := X.base) I.ok.mod.kin kC ?_ hs (by rfl)
  rw [hs]
  show wpAny _ _ (spliced ((false, eval e X.env) :: backTo pos (starEach [] X.env))) _ _ s
  refine Calls.spliced_cons (thn (he.run pins s σ H _ I h) fun u s1 ⟨v, H1, I1, r1, q1⟩ => ?_)
  refine Calls.spliced_nil ⟨I1.kIn, ?_⟩
  show wpAny _ _ (call (.ref C) [u]) _ _ _
  obtain ⟨nm, N, qn, bs, bm, hdct, sn, sub, ab, col, dd, k0, k1, k2, k3, k5, hC, hT⟩ := PySem.W.excInit_of I1.kIn q
  have hl := PySem.W.looks_findIn (M := model X.prog X.w) I1.kIn hi
  obtain ⟨hp, g, d, tk, os⟩ := s1
  refine PySem.W.call_B F hT hC hl (by show 1 ≤ sizeLine; rw [sizeLine_eq]; omega) fun h' k ha ht => ?_
  have hsz : hp.objs.size ≤ hp.objs.size + 1 := Nat.le_succ _
  have nn : hp.get? (hp.objs.size + 1) = none := by
    cases e : hp.get? (hp.objs.size + 1) with
    | none => rfl
    | some o => exact absurd (show hp.objs.size + 1 < hp.objs.size from Heap.lt_size e) (by omega)
  exact ⟨hp.objs.size + 1, _, _, ⟨hp, g, d, tk, os⟩, H1, .ref C, none, rfl, I1, k, nn, ha, ⟨rfl, rfl⟩, rfl, rfl, I1.hok.fresh hsz, rfl, I1.bare, raises_own exC tyC, q1⟩
/-- another reading of a block -/
theorem pss_conv {X : Cx} {b : List Stmt} {t t' : TS} (h : PSs X b t) (c : ∀ (pins : List (Addr × Obj)) (s : Shared) (σ : L2.St) (H : Hp) (D : Ends), Inv X pins σ H s → t' D σ H → t D σ H) : PSs X b t' := ⟨fun pins s σ H D I q => h.run pins s σ H D I (c pins s σ H D I q)⟩
def tNo : TE := fun _ _ _ => False
/-- an expression that is never reached -/
theorem pe_never {X : Cx} {e : Expr} : PE X e tNo := ⟨fun _ _ _ _ _ _ h => h.elim⟩
section
variable {X : Cx}
def rInDT (K : PySem.W.Frag) : R2 := fun x y H Q => ∃ d ds, Dp K H x d ∧ Dp K H y (.tuple ds) ∧ SeqAt.shaped d = true ∧ SeqAt.shaped (.tuple ds) = true ∧ Q (.bl (ds.any fun z => PyData.eqv z d)) H
theorem op_inDT (hu : X.A.units + 65 < cLine) : OpR X (compareOp .In) (rInDT X.K) := by
  intro pins s σ H x y v u Q I rx ry h
  obtain ⟨d, ds, hd, he, sd, se, q⟩ := h
  obtain ⟨as, r1⟩ := Dp.reads I d x v hd rx
  obtain ⟨bs, r2⟩ := Dp.reads I (.tuple ds) y u he ry
  refine SeqAt.in_tuple_reads r2 r1 (SeqAt.canLay_of_shaped se) (SeqAt.canLay_of_shaped sd) ?_ ⟨.bl _, H, I, rfl, q⟩
  have h1 := SeqAt.depth_of_shaped sd
  have h2 : min (PyData.depthAll ds) d.depth ≤ d.depth := Nat.min_le_right _ _
  omega
end
/-- all but dicts and tables stay -/
def KeepL (H H' : Hp) : Prop := ∀ b o, (∀ kvs, o ≠ .dK kvs) → (∀ ps, o ≠ .tbl ps) → H b = some o → H' b = some o
theorem KeepL.of {H H' : Hp} (s : Same H H') : KeepL H H' := fun b o _ _ e => s b o e
theorem KeepL.ext {H H' : Hp} (s : LamX.ExtN H H') : KeepL H H' := fun b o _ n e => s b o e n
theorem KeepL.trans {H H1 H2 : Hp} (a : KeepL H H1) (b : KeepL H1 H2) : KeepL H H2 := fun c o n m e => b c o n m (a c o n m e)
theorem KeepL.lock {H : Hp} {d : Addr} {kvs : List (Key × V)} {o : HO} (h : H d = some (.dK kvs)) : KeepL H (upd H d o) := fun b u n _ e => by
  have : b ≠ d := fun z => by rw [z, h] at e; exact n kvs (Option.some.inj e).symm
  rw [upd_ne this]
  exact e
section
variable {K : PySem.W.Frag} {H H' : Hp}
theorem sqT_kl {a : Addr} {xs : List V} (h : SqT K H a xs) (s : KeepL H H') : SqT K H' a xs := by
  rcases h with (h | ⟨o, h⟩) | h
  · exact .inl (.inl (s _ _ (by intro _ z; cases z) (by intro _ z; cases z) h))
  · exact .inl (.inr ⟨o, s _ _ (by intro _ z; cases z) (by intro _ z; cases z) h⟩)
  · exact .inr h
theorem sqL_kl {a : Addr} {xs : List V} (h : SqL K H a xs) (s : KeepL H H') : SqL K H' a xs := by
  rcases h with (h | ⟨o, h⟩) | h
  · exact .inl (.inl (s _ _ (by intro _ z; cases z) (by intro _ z; cases z) h))
  · exact .inl (.inr ⟨o, s _ _ (by intro _ z; cases z) (by intro _ z; cases z) h⟩)
  · exact .inr h
mutual
theorem dp_kl (s : KeepL H H') : ∀ {v : V} {d : PyData}, Dp K H v d → Dp K H' v d
  | _, _, .non => .non
  | _, _, .bl b => .bl b
  | _, _, .int i => .int i
  | _, _, .str x => .str x
  | _, _, .lst h hs => .lst (sqL_kl h s) (dps_kl s hs)
  | _, _, .tup h hs => .tup (sqT_kl h s) (dps_kl s hs)
theorem dps_kl (s : KeepL H H') : ∀ {vs : List V} {ds : List PyData}, DpAll K H vs ds → DpAll K H' vs ds
  | _, _, .nil => .nil
  | _, _, .cons h t => .cons (dp_kl s h) (dps_kl s t)
end
theorem dp_at : ∀ {vs : List V} {ds : List PyData} {i : Nat} {v : V}, DpAll K H vs ds → vs[i]? = some v → ∃ d, ds[i]? = some d ∧ Dp K H v d
  | _, _, i, v, .nil, e => by simp at e
  | _, _, 0, v, .cons h t, e => by
    obtain rfl := Option.some.inj e
    exact ⟨_, rfl, h⟩
  | _, _, i + 1, v, .cons h t, e => by
    obtain ⟨d, h1, h2⟩ := dp_at (i := i) (v := v) t (by simpa using e)
    exact ⟨d, by simpa using h1, h2⟩
theorem dps_len : ∀ {vs : List V} {ds : List PyData}, DpAll K H vs ds → ds.length = vs.length
  | _, _, .nil => rfl
  | _, _, .cons _ t => congrArg (· + 1) (dps_len t)
end
def fBl (f : S → Bool) : V → Option V
  | .str k => some (V.bl (f k))
  | _ => none
theorem fm_fbl (f : S → Bool) : ∀ ks : List S, (ks.map V.str).filterMap (fBl f) = (ks.map f).map V.bl
  | [] => rfl
  | k :: ks => by
    show V.bl (f k) :: ((ks.map V.str).filterMap _) = _
    rw [fm_fbl f ks]
    rfl
/-- what the top says of an own error class without an __init__ of its own -/
structure ExV (K : PySem.W.Frag) (mg : PySem.Str → Option Value) (x : PySem.Str) (C : Addr) : Prop where
  g : mg x = some (.ref C)
  q : PySem.W.excInitIn K C [.type "ValueError", .type "Exception", .type "BaseException", .type "object"] "ValueError.__new__" = true
  i : PySem.W.findIn K (.ref C) "__init__" = some (some (.builtin "ValueError.__init__"))
  b : PySem.W.subIn K (.ref C) (.type "BaseException") = some true
  t : PySem.W.typeIn K (.ref C) = some (.type "type")
  k : PySem.W.keepIn K (.ref C) = true
/-- whether data is one of the words -/
def inW (d : PyData) : Bool := (W3.map PyData.str).any fun z => PyData.eqv z d
theorem w3_shaped : SeqAt.shaped (.tuple (W3.map PyData.str)) = true := by decide +kernel
theorem dp_strs {K : PySem.W.Frag} {H : Hp} : ∀ ks : List S, DpAll K H (ks.map V.str) (ks.map .str)
  | [] => .nil
  | k :: ks => .cons (.str k) (dp_strs ks)
/-- words by kinds that are not fine -/
inductive BadW (K : PySem.W.Frag) (H : Hp) : V → Prop
  | no {v : V} {t : Value} (ty : TyX K H v t) (h : PySem.W.kitOne K t (.type "dict") = some false) : BadW K H v
  | kind {d : Addr} {kv : List (S × V)} (e : H d = some (.dK (nmK kv))) (hl : kv.length ≤ 100) (hn : ∀ k ∈ kv.map (·.1), k.length ≤ 1000) (hb : (kv.map (·.1)).all nm = false) : BadW K H (.ref d)
  | word {d : Addr} {kv : List (S × V)} {ds : List PyData} (e : H d = some (.dK (nmK kv))) (hl : kv.length ≤ 100) (hk : ∀ k ∈ kv.map (·.1), nm k = true) (hd : DpAll K H (kv.map (·.2)) ds) (sd : ∀ d ∈ ds, SeqAt.shaped d = true) (hb : ds.all inW = false) : BadW K H (.ref d)
def spCheckX (K : PySem.W.Frag) (C : Addr) : Sp := fun vs H Q E => ∃ v, vs = [v] ∧ BadW K H v ∧ ∀ H', Same H H' → E (.ref C) none H'
theorem nmK_keys (kv : List (S × V)) : ((nmK kv).map fun x => kV x.1) = (kv.map (·.1)).map V.str := by
  unfold nmK
  rw [List.map_map, List.map_map]
  rfl
theorem nmK_len (kv : List (S × V)) : (nmK kv).length = kv.length := by unfold nmK; rw [List.length_map]
theorem nmK_vals (kv : List (S × V)) : (nmK kv).map (·.2) = kv.map (·.2) := by unfold nmK; rw [List.map_map]; rfl
section
variable {P : Program} {w : World} {K : PySem.W.Frag} {mg : PySem.Str → Option Value} {base : Heap}
theorem bad_check {f fN CI : Addr} {fd fdN : FuncData} (F : Fun K "_check_words" "_check_words" sCheck f fd) (T : Bare mg) (C : Cst K mg) (N : ExV K mg "InvalidMarking" CI) (FN : Fun K "is_name" "is_name" sIsName fN fdN) (bN : Binds K fdN ["value"] []) (mN : mg "is_name" = some (.ref fN)) : FnOk P w K mg base (L2.CX P w) 2 f fd ["words"] (spCheckX K CI) := by
  have GN : FnOk P w K mg base CX0 1 fN fdN ["value"] spIsName := ok_is_name FN T C
  refine F.okX scCheck (fun vs H Q E h => ?_) (fun cdv A outer s H vs Q E hr h => ?_)
  · obtain ⟨v, rfl, _⟩ := h
    rfl
  · obtain ⟨v, rfl, bad, q⟩ := h
    obtain ⟨aW, mW, kW, hW⟩ := C.ws
    have hu : (A.deeper (envOfC "_check_words" (defScope sCheck) s.heap.objs.size f cdv)).units + 65 < cLine := by have := hr.un; omega
    refine ⟨_, (pss_cons (ps_if (PW.pt (pw_or (pt_not (pt_val (pe_callB call_isi (by rfl) T.isi (by decide +kernel) (pa_cons (pv 0) (pa_cons (pe_bltn (v := .ty "dict") (by rfl) T.dict (by decide +kernel) rfl) pa_nil))))) (pw_or1 (pt_not (pt_val (pe_callB (cr_all rfl) (by rfl) T.all (by decide +kernel) (pa_cons (pe_lock (pe_lc (own := [("kind", 1)]) (g := gName 1) (tt := tYes) rfl scCheck.nd (pi_keys (pv 0)) (blkOk_by (own := [("kind", 1)]) (N := ["words", "kind", "word"]) (sc := defScope sCheck) (by decide +kernel)) (fun _ _ _ _ _ => pg_name (i := 1) scCheck.nd rfl (Or.inl rfl)) (fun _ _ _ _ _ => pts_nil) (fun _ _ _ _ _ => (pe_call GN hr (by rfl) mN FN.kp bN .nil pass0 (pa_cons (pv 1) pa_nil))))) pa_nil))))))) (pss_one (ps_raise rfl (takes_of rfl rfl rfl rfl) (pmk_exm PySem.F.excBase_ValueError N.q N.i N.b N.t N.g N.k (by rfl) pe_str))) pss_nil)
      (pss_one (ps_if (pt_not (pt_val (pe_callB (cr_all rfl) (by rfl) T.all (by decide +kernel) (pa_cons (pe_lock (pe_lc (own := [("word", 2)]) (g := gName 2) (tt := tYes) rfl scCheck.nd (pi_values (pv 0)) (blkOk_by (own := [("word", 2)]) (N := ["words", "kind", "word"]) (sc := defScope sCheck) (by decide +kernel)) (fun _ _ _ _ _ => pg_name (i := 2) scCheck.nd rfl (Or.inl rfl)) (fun _ _ _ _ _ => pts_nil) (fun _ _ _ _ _ => (pe_cmpR (r := rInDT K) (by exact op_inDT hu) (pv 2) (pe_glob (v := .ref aW) rfl mW rfl) (by rfl))))) pa_nil)))) (pss_one (ps_raise rfl (takes_of rfl rfl rfl rfl) (pmk_exm PySem.F.excBase_ValueError N.q N.i N.b N.t N.g N.k (by rfl) pe_str))) pss_nil))), ?_⟩
    cases bad with
    | no ty hk => exact ⟨_, rfl, _, .ty "dict", _, .type "dict", false, rfl, .ty _, ty, hk, false, rfl, q H (Same.refl _)⟩
    | @kind d kv e hl hn hb =>
      refine ⟨_, rfl, _, .ty "dict", _, .type "dict", true, rfl, .ty _, .base (.dK e), kit_ty (by decide +kernel), true, rfl, ?_⟩
      refine ⟨d, _, e, trivial, fun od => ⟨_, rfl, d, od, rfl, .inl ⟨nmK kv, upd_same, fun D n0 => ?_⟩⟩⟩
      have hdD : d ≠ D := ne_of_none upd_same n0
      have n0' : H D = none := by rw [upd_ne hdD.symm] at n0; exact n0
      refine lc_ex wk_keys (fBl nm) (fun ys => by rw [upd_ne hdD, upd_same]) (by rw [List.length_map, nmK_len]; omega) (fun i x ys R Nn hx hR hN => ⟨rfl, ?_⟩) ?_
      · rw [nmK_keys, List.getElem?_map] at hx
        obtain ⟨k, hk, rfl⟩ : ∃ k, (kv.map (·.1))[i]? = some k ∧ V.str k = x := by
          cases z : (kv.map (·.1))[i]? with
          | none => rw [z] at hx; cases hx
          | some k => rw [z] at hx; exact ⟨k, rfl, Option.some.inj hx⟩
        exact ⟨_, rfl, k, rfl, hn k (List.mem_of_getElem? hk), hR _ rfl⟩
      · rw [nmK_keys, fm_fbl nm]
        refine ⟨by rw [upd_ne hdD, upd_same], ?_⟩
        rw [unlock_eq e n0']
        refine ⟨D, _, rfl, SqL.of upd_same, ?_⟩
        have ea : ((kv.map (·.1)).map nm).all id = false := by rw [List.all_map]; exact hb
        rw [ea]
        exact ⟨false, rfl, q _ (same_upd n0')⟩
    | @word d kv ds e hl hk hd sd hb =>
      refine ⟨_, rfl, _, .ty "dict", _, .type "dict", true, rfl, .ty _, .base (.dK e), kit_ty (by decide +kernel), true, rfl, ?_⟩
      refine ⟨d, _, e, trivial, fun od => ⟨_, rfl, d, od, rfl, .inl ⟨nmK kv, upd_same, fun D n0 => ?_⟩⟩⟩
      have hdD : d ≠ D := ne_of_none upd_same n0
      have n0' : H D = none := by rw [upd_ne hdD.symm] at n0; exact n0
      refine lc_ex wk_keys (fBl nm) (fun ys => by rw [upd_ne hdD, upd_same]) (by rw [List.length_map, nmK_len]; omega) (fun i x ys R Nn hx hR hN => ⟨rfl, ?_⟩) ?_
      · rw [nmK_keys, List.getElem?_map] at hx
        obtain ⟨k, hk', rfl⟩ : ∃ k, (kv.map (·.1))[i]? = some k ∧ V.str k = x := by
          cases z : (kv.map (·.1))[i]? with
          | none => rw [z] at hx; cases hx
          | some k => rw [z] at hx; exact ⟨k, rfl, Option.some.inj hx⟩
        exact ⟨_, rfl, k, rfl, by have := nm_len (hk k (List.mem_of_getElem? hk')); omega, hR _ rfl⟩
      · rw [nmK_keys, fm_fbl nm]
        refine ⟨by rw [upd_ne hdD, upd_same], ?_⟩
        rw [unlock_eq e n0']
        refine ⟨D, _, rfl, SqL.of upd_same, ?_⟩
        have ea : ((kv.map (·.1)).map nm).all id = true := by rw [List.all_map]; exact List.all_eq_true.mpr hk
        rw [ea]
        refine ⟨true, rfl, ?_⟩
        have s1 : Same H (upd H D (.lst (((kv.map (·.1)).map nm).map V.bl))) := same_upd n0'
        have e1 := s1 _ _ e
        generalize upd H D (.lst (((kv.map (·.1)).map nm).map V.bl)) = G at s1 e1 ⊢
        refine ⟨d, _, e1, trivial, fun od2 => ⟨_, rfl, d, od2, _, rfl, upd_same, fun D2 m0 => ?_⟩⟩
        have hdD2 : d ≠ D2 := ne_of_none upd_same m0
        have m0' : G D2 = none := by rw [upd_ne hdD2.symm] at m0; exact m0
        have hlen := dps_len hd
        have sk : ∀ u, KeepL H (upd (upd G d (.frz od2 (.dK (nmK kv)))) D2 u) := fun u => ((KeepL.of s1).trans (KeepL.lock e1)).trans (KeepL.of (same_upd m0))
        refine lc_gr (J := Itd d od2 (nmK kv)) (n := kv.length) (fun i ys G' => G' = upd (upd G d (.frz od2 (.dK (nmK kv)))) D2 (.lst ys) ∧ ys = ((ds.take i).map inW).map V.bl) (by omega) (fun i ys G' h1 hi => ⟨by rw [h1.1, upd_ne hdD2, upd_same], by rw [nmK_len]; exact hi⟩) (fun ys G' h1 => ⟨by rw [h1.1, upd_ne hdD2, upd_same], by rw [nmK_len]; exact Nat.le_refl _⟩) ⟨rfl, rfl⟩ (fun i x ys G' G'' R Nn hi hD hP hy hR hN => ⟨rfl, ?_⟩) (fun ys G' hD hP => ?_)
        · obtain ⟨eG, ey⟩ := hP
          obtain ⟨e2, k2, hk2⟩ := hy
          subst e2
          have hx2 : (kv.map (·.2))[i]? = some x := by rw [← nmK_vals, List.getElem?_map, hk2]; rfl
          obtain ⟨dd, h1, h2⟩ := dp_at hd hx2
          have h2' : Dp K G'' x dd := by rw [eG]; exact dp_kl (sk _) h2
          have hW' : Dp K G'' (.ref aW) (.tuple (W3.map PyData.str)) := .tup (hW _) (dp_strs _)
          refine ⟨_, rfl, dd, W3.map PyData.str, h2', hW', sd dd (List.mem_of_getElem? h1), w3_shaped, ?_⟩
          refine hR _ _ hD ⟨by rw [eG, upd_upd], ?_⟩
          rw [ey, List.take_add_one, h1, List.map_append, List.map_append]
          rfl
        · obtain ⟨eG, ey⟩ := hP
          subst eG
          refine ⟨by rw [upd_ne hdD2, upd_same], ?_⟩
          rw [unlock_eq e1 m0']
          refine ⟨D2, (ds.take kv.length).map inW, rfl, SqL.of (upd_same.trans (by rw [ey])), ?_⟩
          have eb : ((ds.take kv.length).map inW).all id = false := by
            rw [List.take_of_length_le (by rw [hlen, List.length_map]; exact Nat.le_refl _), List.all_map]
            exact hb
          rw [eb]
          exact ⟨false, rfl, q _ (s1.trans (same_upd m0'))⟩
theorem bad_kept {f fC CI : Addr} {fd fdC : FuncData} (F : Fun K "_kept_words" "_kept_words" sKept f fd) (FC : Fun K "_check_words" "_check_words" sCheck fC fdC) (bC : Binds K fdC ["words"] []) (mC : mg "_check_words" = some (.ref fC)) (GC : FnOk P w K mg base (L2.CX P w) 2 fC fdC ["words"] (spCheckX K CI)) : FnOk P w K mg base (L2.CX P w) 3 f fd ["words"] (spCheckX K CI) := by
  refine F.okX scKept (fun vs H Q E h => ?_) (fun cdv A outer s H vs Q E hr h => ?_)
  · obtain ⟨v, rfl, _⟩ := h
    rfl
  · obtain ⟨v, rfl, bad, q⟩ := h
    refine ⟨_, (pss_cons (ps_expr (pe_call (E := E) GC hr (by rfl) mC FC.kp bC .nil (passes_call (takes_of rfl rfl rfl rfl) fun _ _ _ _ h => h) (pa_cons (pv 0) pa_nil))) pss_never), ?_⟩
    exact ⟨_, rfl, v, rfl, bad, q⟩
end
end M46

/-! Marking and its methods where they refuse. -/
namespace M46
open PySem PySem.Spec PyProof.Rows L2 R0 K1 ClX StX

/-- entries that are no words by kinds -/
inductive BadP (K : PySem.W.Frag) (H : Hp) (kv : List (S × V)) : Prop
  | kind (hl : kv.length ≤ 100) (hn : ∀ k ∈ kv.map (·.1), k.length ≤ 1000) (hb : (kv.map (·.1)).all nm = false) : BadP K H kv
  | word {ds : List PyData} (hl : kv.length ≤ 100) (hk : ∀ k ∈ kv.map (·.1), nm k = true) (hd : DpAll K H (kv.map (·.2)) ds) (sd : ∀ d ∈ ds, SeqAt.shaped d = true) (hb : ds.all inW = false) : BadP K H kv
theorem BadP.at_ {K : PySem.W.Frag} {H : Hp} {kv : List (S × V)} {d : Addr} (b : BadP K H kv) (e : H d = some (.dK (nmK kv))) : BadW K H (.ref d) := by
  cases b with
  | kind hl hn hb => exact .kind e hl hn hb
  | word hl hk hd sd hb => exact .word e hl hk hd sd hb
theorem BadP.keep {K : PySem.W.Frag} {H H' : Hp} {kv : List (S × V)} (b : BadP K H kv) (s : KeepL H H') : BadP K H' kv := by
  cases b with
  | kind hl hn hb => exact .kind hl hn hb
  | word hl hk hd sd hb => exact .word hl hk (dps_kl s hd) sd hb
/-! ### entries put into others -/
def putV (kv : List (S × V)) (k : S) (v : V) : List (S × V) := if k ∈ kv.map (·.1) then kv.map (fun x => if x.1 = k then (x.1, v) else x) else kv ++ [(k, v)]
theorem any_nmK (k : S) (kv : List (S × V)) : ((nmK kv).any fun x => decide (x.1 = (Sum.inr k : Key))) = decide (k ∈ kv.map (·.1)) := by
  unfold nmK
  rw [List.any_map, Bool.eq_iff_iff, List.any_eq_true, decide_eq_true_eq, List.mem_map]
  constructor
  · rintro ⟨x, hx, e⟩
    exact ⟨x, hx, Sum.inr.inj (of_decide_eq_true e)⟩
  · rintro ⟨x, hx, e⟩
    exact ⟨x, hx, decide_eq_true (congrArg Sum.inr e)⟩
theorem put_nmK {kv : List (S × V)} {k : S} {v : V} : putK (nmK kv) (Sum.inr k : Key) v = nmK (putV kv k v) := by
  unfold putK putV
  rw [any_nmK]
  by_cases h : k ∈ kv.map (·.1)
  · rw [decide_eq_true h, if_pos rfl, if_pos h]
    unfold nmK
    rw [List.map_map, List.map_map]
    refine List.map_congr_left fun x _ => ?_
    show (if (Sum.inr x.1 : Key) = Sum.inr k then ((Sum.inr x.1 : Key), v) else _) = _
    by_cases e : x.1 = k
    · rw [if_pos (by rw [e])]
      show _ = ((Sum.inr (if x.1 = k then (x.1, v) else x).1 : Key), (if x.1 = k then (x.1, v) else x).2)
      rw [if_pos e]
    · rw [if_neg (fun z => e (Sum.inr.inj z))]
      show _ = ((Sum.inr (if x.1 = k then (x.1, v) else x).1 : Key), (if x.1 = k then (x.1, v) else x).2)
      rw [if_neg e]
  · rw [decide_eq_false h, if_neg Bool.false_ne_true, if_neg h]
    unfold nmK
    rw [List.map_append]
    rfl
theorem putV_new {kv : List (S × V)} {k : S} {v : V} (h : k ∉ kv.map (·.1)) : putV kv k v = kv ++ [(k, v)] := by unfold putV; rw [if_neg h]
theorem keys_putV {kv : List (S × V)} {k : S} {v : V} : (putV kv k v).map (·.1) = if k ∈ kv.map (·.1) then kv.map (·.1) else kv.map (·.1) ++ [k] := by
  unfold putV
  by_cases h : k ∈ kv.map (·.1)
  · rw [if_pos h, if_pos h, List.map_map]
    refine List.map_congr_left fun x _ => ?_
    show (if x.1 = k then (x.1, v) else x).1 = x.1
    by_cases e : x.1 = k
    · rw [if_pos e]
    · rw [if_neg e]
  · rw [if_neg h, if_neg h, List.map_append]
    rfl
theorem len_putV {kv : List (S × V)} {k : S} {v : V} : (putV kv k v).length ≤ kv.length + 1 := by
  unfold putV
  split
  · rw [List.length_map]; omega
  · rw [List.length_append]; simp
theorem merge_nodupV : ∀ {kv pre : List (S × V)}, ((pre ++ kv).map (·.1)).Nodup → mergeK (nmK pre) (nmK kv) = nmK (pre ++ kv)
  | [], pre, _ => by rw [List.append_nil]; rfl
  | (a, b) :: kv, pre, h => by
    have hn : a ∉ pre.map (·.1) := by
      rw [List.map_append, List.nodup_append] at h
      intro m
      exact h.2.2 a m a (by simp) rfl
    show mergeK (putK (nmK pre) (Sum.inr a : Key) b) (nmK kv) = _
    rw [put_nmK, putV_new hn, merge_nodupV (by rw [List.append_assoc]; exact h), List.append_assoc]
    rfl
theorem merge_nilV {kv : List (S × V)} (h : (kv.map (·.1)).Nodup) : mergeK [] (nmK kv) = nmK kv := merge_nodupV (pre := []) h
theorem merge_putV {ks : List (S × V)} {k : S} {v : V} (h : (ks.map (·.1)).Nodup) : mergeK (mergeK [] (nmK ks)) (mergeK [] (nmK [(k, v)])) = nmK (putV ks k v) := by
  rw [merge_nilV h, merge_nilV (by simp)]
  exact put_nmK
theorem merge_twoV {ks : List (S × V)} {j k : S} {u v : V} (h : (ks.map (·.1)).Nodup) (ho : j ∉ ks.map (·.1)) (hk : k ≠ j) : mergeK (mergeK [] (nmK ks)) (mergeK [] (nmK [(j, u), (k, v)])) = nmK (putV (ks ++ [(j, u)]) k v) := by
  rw [merge_nilV h, merge_nilV (by simpa using fun z => hk z.symm)]
  show putK (putK (nmK ks) (Sum.inr j : Key) u) (Sum.inr k : Key) v = _
  rw [put_nmK, put_nmK, putV_new ho]
theorem nodupV_app {kv : List (S × V)} {k : S} {v : V} (n : (kv.map (·.1)).Nodup) (h : k ∉ kv.map (·.1)) : ((kv ++ [(k, v)]).map (·.1)).Nodup := by
  rw [List.map_append, List.nodup_append]
  refine ⟨n, by simp, fun a ha b hb e => ?_⟩
  obtain rfl : b = k := by simpa using hb
  exact h (e ▸ ha)
/-! ### data of entries -/
section
variable {K : PySem.W.Frag} {H : Hp}
theorem dps_app {vs us : List V} {ds es : List PyData} (h : DpAll K H vs ds) (t : DpAll K H us es) : DpAll K H (vs ++ us) (ds ++ es) := by
  induction vs generalizing ds with
  | nil => cases h; exact t
  | cons v vs ih =>
    cases h with
    | cons a b => exact .cons a (ih b)
theorem dps_repl {k : S} {v : V} {dv : PyData} (hv : Dp K H v dv) : ∀ {kv : List (S × V)} {ds : List PyData}, DpAll K H (kv.map (·.2)) ds → ∃ es, DpAll K H ((kv.map fun x => if x.1 = k then (x.1, v) else x).map (·.2)) es ∧ (∀ d ∈ es, d ∈ ds ∨ d = dv) ∧ (k ∈ kv.map (·.1) → dv ∈ es)
  | [], ds, h => by
    cases h
    exact ⟨[], .nil, fun d hd => (by cases hd), fun hk => (by cases hk)⟩
  | (a, b) :: kv, ds, h => by
    cases h with
    | @cons _ _ d0 ds' h0 t =>
      obtain ⟨es, h1, h2, h3⟩ := dps_repl (k := k) hv t
      by_cases e : a = k
      · refine ⟨dv :: es, ?_, fun d hd => ?_, fun _ => List.mem_cons_self⟩
        · rw [List.map_cons, List.map_cons]
          show DpAll K H ((if a = k then (a, v) else (a, b)).2 :: _) _
          rw [if_pos e]
          exact .cons hv h1
        · rcases List.mem_cons.mp hd with z | z
          · exact .inr z
          · exact (h2 d z).imp (List.mem_cons_of_mem _) id
      · refine ⟨d0 :: es, ?_, fun d hd => ?_, fun hk => ?_⟩
        · rw [List.map_cons, List.map_cons]
          show DpAll K H ((if a = k then (a, v) else (a, b)).2 :: _) _
          rw [if_neg e]
          exact .cons h0 h1
        · rcases List.mem_cons.mp hd with z | z
          · exact .inl (by rw [z]; exact List.mem_cons_self)
          · exact (h2 d z).imp (List.mem_cons_of_mem _) id
        · rw [List.map_cons, List.mem_cons] at hk
          exact List.mem_cons_of_mem _ (h3 (hk.resolve_left fun z => e z.symm))
theorem dps_put {kv : List (S × V)} {k : S} {v : V} {ds : List PyData} {dv : PyData} (h : DpAll K H (kv.map (·.2)) ds) (hv : Dp K H v dv) : ∃ es, DpAll K H ((putV kv k v).map (·.2)) es ∧ (∀ d ∈ es, d ∈ ds ∨ d = dv) ∧ dv ∈ es := by
  unfold putV
  by_cases m : k ∈ kv.map (·.1)
  · rw [if_pos m]
    obtain ⟨es, h1, h2, h3⟩ := dps_repl (k := k) hv h
    exact ⟨es, h1, h2, h3 m⟩
  · rw [if_neg m]
    refine ⟨ds ++ [dv], by rw [List.map_append]; exact dps_app h (.cons hv .nil), fun d hd => ?_, by simp⟩
    rcases List.mem_append.mp hd with z | z
    · exact .inl z
    · exact .inr (List.mem_singleton.mp z)
end
/-- a word that is none -/
structure OddW (K : PySem.W.Frag) (H : Hp) (v : V) (d : PyData) : Prop where
  dp : Dp K H v d
  sh : SeqAt.shaped d = true
  no : inW d = false
theorem OddW.keep {K : PySem.W.Frag} {H H' : Hp} {v : V} {d : PyData} (o : OddW K H v d) (s : KeepL H H') : OddW K H' v d := ⟨dp_kl s o.dp, o.sh, o.no⟩
theorem all_no {ds : List PyData} {d : PyData} (h : d ∈ ds) (n : inW d = false) : ds.all inW = false := by
  cases e : ds.all inW with
  | false => rfl
  | true => rw [List.all_eq_true.mp e d h] at n; cases n
theorem str_ok {x : S} (h : nm x = true) : SeqAt.shaped (.str x) = true := by
  have h2 : PyData.strOk x = true := by
    unfold PyData.strOk
    rw [← Array.all_toList, List.all_eq_true]
    intro c hc
    unfold nm at h
    rw [Bool.and_eq_true, Bool.and_eq_true] at h
    have := List.all_eq_true.mp h.2.2 c hc
    unfold low at this
    simp at this
    exact decide_eq_true (by omega)
  show (PyData.canLay0 (.str x) && decide (PyData.depth (.str x) ≤ 64)) = true
  simp only [PyData.canLay0, PyData.depth, h2]
  rfl
theorem w3_name {v : S} (h : v ∈ W3) : nm v = true := by
  have hx' : v = w0 ∨ v = w1 ∨ v = w2 := by simpa [W3] using h
  rcases hx' with e | e | e <;> subst e <;> decide +kernel
/-! ### __init__ -/
def spInitX (K : PySem.W.Frag) (CI : Addr) : Sp := fun vs H Q E => ∃ (x d : Addr) (ks : List (S × V)) (v : V), vs = [.ref x, v, .ref d] ∧ H d = some (.dK (nmK ks)) ∧ (ks.map (·.1)).Nodup ∧ ks.length ≤ 90 ∧ BadP K H (putV ks oth v) ∧ ∀ H', Same H H' → E (.ref CI) none H'
/-- the class called with keywords, some of which are not fine -/
def badKw (K : PySem.W.Frag) (kv : List (S × V)) (H : Hp) : Prop := slf ∉ kv.map (·.1) ∧ (kv.map (·.1)).Nodup ∧ kv.length ≤ 90 ∧ BadP K H (putV (kv.filter fun q => !decide (q.1 = ("other" : S))) oth ((kv.lookup ("other" : S)).getD (V.str w0)))
section
variable {P : Program} {w : World} {K : PySem.W.Frag} {mg : PySem.Str → Option Value} {base : Heap} {C CM CT CI CN CO : Addr} {mc : Value}
theorem bad_init {f fK : Addr} {fd fdK : FuncData} (F : FunD K "__init__" "Marking.__init__" (defArgs sInit) (defBody sInit) (defScope sInit) [] [("other", V.str w0)] f fd) (bK : Binds K fdK ["words"] []) (kK : PySem.W.keepIn K (.ref fK) = true) (mK : mg "_kept_words" = some (.ref fK)) (GK : FnOk P w K mg base (L2.CX P w) 3 fK fdK ["words"] (spCheckX K CI)) : FnW P w K mg base (L2.CX P w) 4 f (spW "self" "other" (V.str w0) (spInitX K CI)) := by
  refine fn_kw1 (more := kwI) F (show FnScope ["self", "other", "kinds"] ["self", "other", kwI.arg] (defScope sInit) from scInit) rfl rfl rfl rfl rfl (by decide +kernel) StX.cxUp (fun cdv A outer s H vs Q E hr h => ?_)
  obtain ⟨x, d, ks, v, rfl, hd, nks, hl, bad, q⟩ := h
  refine ⟨_, (pss_one (ps_asg (pe_call (E := E) GK hr (by rfl) mK kK bK .nil (passes_call (takes_of rfl rfl rfl rfl) fun _ _ _ _ h => h) (pa_cons (pe_dd (pv 2) (pps_cons pe_str (pv 1) pps_nil) (by rfl) (by rfl) (fun z => by cases z) (by decide)) pa_nil)) (pg_tup (by rfl) (pgs_cons (pg_att (pv 0)) (pgs_cons (pg_att (pv 0)) pgs_nil))))), ?_⟩
  refine fun p hp => ⟨_, rfl, d, nmK ks, rfl, .inl (by rw [upd_ne (ne_of_none hd hp)]; exact hd), ne_of_none hd hp, upd_same, by rw [nmK_len]; omega, fun e he => ?_⟩
  have hpe : p ≠ e := ne_of_none upd_same he
  have he0 : H e = none := by rw [upd_upd, upd_ne hpe.symm] at he; exact he
  refine ⟨_, rfl, by rw [upd_ne hpe, upd_same], upd_same, nmK [(oth, v)], rfl, (by rw [nmK_len]; exact Nat.succ_le_succ (Nat.zero_le _)), ?_⟩
  rw [merge_putV nks]
  have s3 : Same H (upd (upd (upd (upd (upd H p (.dK [])) p (.dK (mergeK [] (nmK ks)))) e (.dK [])) e (.dK (mergeK [] (nmK [(oth, v)])))) p (.dK (nmK (putV ks oth v)))) := fun b u eb => by
    have b1 : b ≠ p := ne_of_none eb hp
    have b2 : b ≠ e := ne_of_none eb he0
    rw [upd_ne b1, upd_ne b2, upd_ne b2, upd_ne b1, upd_ne b1]
    exact eb
  exact ⟨_, rfl, (bad.keep (KeepL.of s3)).at_ upd_same, fun H' s4 => q H' (s3.trans s4)⟩
theorem make_bad {H : Hp} {Q : VK} {E : XK} {kv : List (S × V)} (b : badKw K kv H) (q : ∀ H', Same H H' → E (.ref CI) none H') : rMakeW CM (spW "self" "other" (V.str w0) (spInitX K CI)) E kv H Q := by
  intro x dx nx nd nex
  obtain ⟨h1, h2, h3, h4⟩ := b
  have s1 := made_same (C := CM) nx nd
  refine ⟨h1, h2, by omega, fun d hd => ?_⟩
  have s2 := s1.trans (same_upd (o := .dK (nmK (kv.filter fun q => !decide (q.1 = ("other" : S))))) hd)
  have hsub : List.Sublist (kv.filter fun q => !decide (q.1 = ("other" : S))) kv := List.filter_sublist
  exact ⟨x, d, _, _, rfl, upd_same, (hsub.map _).nodup h2, Nat.le_trans hsub.length_le h3, h4.keep (KeepL.of s2), fun H' s3 => q H' (s2.trans s3)⟩
/-! ### of, even, with_word, [ ] -/
def spOfX (K : PySem.W.Frag) (CM CI : Addr) : Sp := fun vs H Q E => ∃ v, vs = [.ref CM, v] ∧ BadW K H v ∧ ∀ H', Same H H' → E (.ref CI) none H'
theorem bad_of {f fC : Addr} {fd fdC : FuncData} (F : Fun K "of" "Marking.of" sOf f fd) (bC : Binds K fdC ["words"] []) (kC : PySem.W.keepIn K (.ref fC) = true) (mC : mg "_check_words" = some (.ref fC)) (GC : FnOk P w K mg base (L2.CX P w) 2 fC fdC ["words"] (spCheckX K CI)) : FnOk P w K mg base (L2.CX P w) 6 f fd ["cls", "words"] (spOfX K CM CI) := by
  refine F.okX scOf (fun vs H Q E h => ?_) (fun cdv A outer s H vs Q E hr h => ?_)
  · obtain ⟨v, rfl, _⟩ := h
    rfl
  · obtain ⟨v, rfl, bad, q⟩ := h
    refine ⟨_, (pss_cons (ps_expr (pe_call (E := E) GC (hr.mono (by decide)) (by rfl) mC kC bC .nil (passes_call (takes_of rfl rfl rfl rfl) fun _ _ _ _ h => h) (pa_cons (pv 1) pa_nil))) pss_never), ?_⟩
    exact ⟨_, rfl, v, rfl, bad, q⟩
def spEvenX (K : PySem.W.Frag) (CM CI : Addr) : Sp := fun vs H Q E => ∃ v, vs = [.ref CM, v] ∧ badKw K [("other", v)] H ∧ ∀ H', Same H H' → E (.ref CI) none H'
theorem bad_even {f fM : Addr} {fd : FuncData} (F : Fun K "even" "Marking.even" sEven f fd) (MM : Mk K CM fM) (GM : FnW P w K mg base (L2.CX P w) 4 fM (spW "self" "other" (V.str w0) (spInitX K CI))) (mM : mg "Marking" = some (.ref CM)) : FnOk P w K mg base (L2.CX P w) 6 f fd ["cls", "word"] (spEvenX K CM CI) := by
  refine F.okX scEven (fun vs H Q E h => ?_) (fun cdv A outer s H vs Q E hr h => ?_)
  · obtain ⟨v, rfl, _⟩ := h
    rfl
  · obtain ⟨v, rfl, bad, q⟩ := h
    refine ⟨_, (pss_one (ps_ret (pe_makeKV (E := E) (ks := ["other"]) MM GM hr rfl mM (passes_call (takes_of rfl rfl rfl rfl) fun _ _ _ _ h => h) (pk_cons (pv 1) pk_nil)))), ?_⟩
    exact ⟨_, rfl, make_bad bad q⟩
def spGetX (K : PySem.W.Frag) (CN : Addr) : Sp := fun vs H Q E => ∃ (a : Addr) (k : S), vs = [.ref a, .str k] ∧ k.length ≤ 1000 ∧ nm k = false ∧ E (.ref CN) none H
theorem bad_get {f fN : Addr} {fd fdN : FuncData} (F : Fun K "__getitem__" "Marking.__getitem__" sGet f fd) (T : Bare mg) (c : Cst K mg) (N : ExV K mg "InvalidName" CN) (FN : Fun K "is_name" "is_name" sIsName fN fdN) (bN : Binds K fdN ["value"] []) (mN : mg "is_name" = some (.ref fN)) : FnOk P w K mg base (L2.CX P w) 2 f fd ["self", "at"] (spGetX K CN) := by
  have GN : FnOk P w K mg base CX0 1 fN fdN ["value"] spIsName := ok_is_name FN T c
  refine F.okX scGet (fun vs H Q E h => ?_) (fun cdv A outer s H vs Q E hr h => ?_)
  · obtain ⟨a, k, rfl, _⟩ := h
    rfl
  · obtain ⟨a, k, rfl, hl, hk, q⟩ := h
    refine ⟨_, (pss_cons (ps_if (pt_not (pt_val (pe_call GN hr (by rfl) mN FN.kp bN .nil pass0 (pa_cons (pv 1) pa_nil)))) (pss_one (ps_raise rfl (takes_of rfl rfl rfl rfl) (pmk_exm PySem.F.excBase_ValueError N.q N.i N.b N.t N.g N.k (by rfl) pe_str))) pss_nil) pss_never), ?_⟩
    refine ⟨_, rfl, k, rfl, hl, ?_⟩
    rw [hk]
    exact ⟨false, rfl, q⟩
/-- with_word: the kind is none, or the word is none -/
def spWithX (K : PySem.W.Frag) (C CI CN : Addr) : Sp := fun vs H Q E => ∃ (a : Addr) (k : S) (v : V), vs = [.ref a, .str k, v] ∧ k.length ≤ 1000 ∧
  ((nm k = false ∧ E (.ref CN) none H) ∨ (nm k = true ∧ k ≠ oth ∧ ∃ ws r d, MkAt C H a ws r ∧ Fine ws r ∧ (ws.map (·.1)).Nodup ∧ oth ∉ ws.map (·.1) ∧ ws.length ≤ 37 ∧ OddW K H v d ∧ ∀ H', Same H H' → E (.ref CI) none H'))
theorem wd_nm (ws : List (S × S)) : wd ws = nmK (ws.map fun x => (x.1, V.str x.2)) := (wd_nmK ws).symm
theorem dps_wd {H : Hp} (ws : List (S × S)) : DpAll K H ((ws.map fun x => (x.1, V.str x.2)).map (·.2)) (ws.map fun x => PyData.str x.2) := by
  induction ws with
  | nil => exact .nil
  | cons x ws ih => exact .cons (.str _) ih
theorem bad_with {f fN fO pO : Addr} {fd fdN : FuncData} (F : Fun K "with_word" "Marking.with_word" sWith f fd) (T : Bare mg) (c : Cst K mg) (cf : ClsF K C) (N : ExV K mg "InvalidName" CN) (FN : Fun K "is_name" "is_name" sIsName fN fdN) (bN : Binds K fdN ["value"] []) (mN : mg "is_name" = some (.ref fN))
    (mM : mg "Marking" = some (.ref CM)) (cr : CRead K CM mc) (cO : CMet K CM mc "of" pO fO) (GO : FnR P w K mg base (L2.CX P w) 6 fO (spOfX K CM CI)) : FnOk P w K mg base (L2.CX P w) 7 f fd ["self", "kind", "word"] (spWithX K C CI CN) := by
  have GN : FnOk P w K mg base CX0 1 fN fdN ["value"] spIsName := ok_is_name FN T c
  refine F.okX scWith (fun vs H Q E h => ?_) (fun cdv A outer s H vs Q E hr h => ?_)
  · obtain ⟨a, k, v, rfl, _⟩ := h
    rfl
  · obtain ⟨a, k, v, rfl, hl, h⟩ := h
    have hr1 : Room 1 _ := hr.mono (by decide)
    have hr6 : Room 6 _ := hr.mono (by decide)
    refine ⟨_, (pss_cons (ps_if (pt_not (pt_val (pe_call GN hr1 (by rfl) mN FN.kp bN .nil pass0 (pa_cons (pv 1) pa_nil)))) (pss_one (ps_raise rfl (takes_of rfl rfl rfl rfl) (pmk_exm PySem.F.excBase_ValueError N.q N.i N.b N.t N.g N.k (by rfl) pe_str))) pss_nil)
      (pss_one (ps_ret (pe_cmeth (E := E) (pe_glob (v := .ref CM) rfl mM rfl) cr cO GO hr6 (passes_call (takes_of rfl rfl rfl rfl) fun _ _ _ _ h => h) (pa_cons (pe_dd (pe_fld (pv 0) rfl) (pps_cons pe_str (pe_fld (pv 0) rfl) (pps_cons (pv 1) (pv 2) pps_nil)) (by rfl) (by rfl) (fun z => by cases z) (by decide)) pa_nil))))), ?_⟩
    refine ⟨_, rfl, k, rfl, hl, ?_⟩
    rcases h with ⟨hk, q⟩ | ⟨hk, ko, ws, r, dv, ⟨dx, d, ha, hd⟩, fa, nd, ho, hlen, ov, q⟩
    · rw [hk]
      exact ⟨false, rfl, q⟩
    · rw [hk]
      refine ⟨true, rfl, rfl, fun p hp => ⟨_, rfl, a, C, dx, _, _, rfl, by rw [upd_ne (ne_of_none ha hp)]; exact ha, cf.cl, cf.nW, fl_w _ _, d, wd ws, rfl, .inl (by rw [upd_ne (ne_of_none hd hp)]; exact hd), ne_of_none hd hp, upd_same, by rw [wd_len]; omega, fun e he => ?_⟩⟩
      have hpe : p ≠ e := ne_of_none upd_same he
      have he0 : H e = none := by rw [upd_upd, upd_ne hpe.symm] at he; exact he
      have hap : a ≠ p := ne_of_none ha hp
      have hae : a ≠ e := ne_of_none ha he0
      refine ⟨_, rfl, a, C, dx, _, _, rfl, by rw [upd_ne hae, upd_ne hap, upd_ne hap]; exact ha, cf.cl, cf.nR, fl_r _ _, _, rfl, _, rfl, by rw [upd_ne hpe, upd_same], upd_same, nmK [(oth, V.str r), (k, v)], rfl, (by rw [nmK_len]; exact Nat.succ_le_succ (Nat.succ_le_succ (Nat.zero_le _))), ?_⟩
      have hkeys : (ws.map fun x => (x.1, V.str x.2)).map (·.1) = ws.map (·.1) := by rw [List.map_map]; rfl
      rw [wd_nm, merge_twoV (by rw [hkeys]; exact nd) (by rw [hkeys]; exact ho) ko]
      have s3 : Same H (upd (upd (upd (upd (upd H p (.dK [])) p (.dK (mergeK [] (nmK (ws.map fun x => (x.1, V.str x.2)))))) e (.dK [])) e (.dK (mergeK [] (nmK [(oth, V.str r), (k, v)])))) p (.dK (nmK (putV ((ws.map fun x => (x.1, V.str x.2)) ++ [(oth, V.str r)]) k v)))) := fun b u eb => by
        have b1 : b ≠ p := ne_of_none eb hp
        have b2 : b ≠ e := ne_of_none eb he0
        rw [upd_ne b1, upd_ne b2, upd_ne b2, upd_ne b1, upd_ne b1]
        exact eb
      have hdp : DpAll K H (((ws.map fun x => (x.1, V.str x.2)) ++ [(oth, V.str r)]).map (·.2)) ((ws.map fun x => PyData.str x.2) ++ [.str r]) := by
        rw [List.map_append]
        exact dps_app (dps_wd ws) (.cons (.str _) .nil)
      obtain ⟨es, g1, g2, g3⟩ := dps_put (k := k) hdp ov.dp
      have bad : BadP K H (putV ((ws.map fun x => (x.1, V.str x.2)) ++ [(oth, V.str r)]) k v) := by
        refine .word (ds := es) ?_ (fun j hj => ?_) g1 (fun d' hd' => ?_) (all_no g3 ov.no)
        · have := len_putV (kv := (ws.map fun x => (x.1, V.str x.2)) ++ [(oth, V.str r)]) (k := k) (v := v)
          rw [List.length_append, List.length_map, List.length_singleton] at this
          omega
        · rw [keys_putV] at hj
          have hj2 : j ∈ ((ws.map fun x => (x.1, V.str x.2)) ++ [(oth, V.str r)]).map (·.1) ∨ j = k := by
            split at hj
            · exact .inl hj
            · rcases List.mem_append.mp hj with z | z
              · exact .inl z
              · exact .inr (List.mem_singleton.mp z)
          rcases hj2 with z | z
          · rw [List.map_append, hkeys, List.mem_append] at z
            rcases z with z | z
            · exact fa.nm j z
            · rw [List.mem_singleton.mp z]; exact nm_oth
          · rw [z]; exact hk
        · rcases g2 d' hd' with z | z
          · rcases List.mem_append.mp z with z | z
            · obtain ⟨x, hx, rfl⟩ := List.mem_map.mp z
              exact str_ok (w3_name (fa.vs _ (List.mem_map.mpr ⟨x, hx, rfl⟩)))
            · rw [List.mem_singleton.mp z]; exact str_ok (w3_name fa.r)
          · rw [z]; exact ov.sh
      exact ⟨_, rfl, (bad.keep (KeepL.of s3)).at_ upd_same, fun H' s4 => q H' (s3.trans s4)⟩
end
end M46

/-! _kinds_of_both; | and & of markings (made by gJP.py). -/
namespace M46
open PySem PySem.Spec PyProof.Rows L2 R0 K1 ClX StX

abbrev sBoth : Stmt := top 24
abbrev sOr : Stmt := inClass (top 22) 9
abbrev sAnd : Stmt := inClass (top 22) 10
theorem list_snoc {α : Type} {motive : List α → Prop} (nil : motive []) (append_singleton : ∀ l a, motive l → motive (l ++ [a])) (l : List α) : motive l := by
  have h : ∀ m : List α, motive m.reverse := fun m => by
    induction m with
    | nil => exact nil
    | cons a m ih => rw [List.reverse_cons]; exact append_singleton _ _ ih
  have := h l.reverse
  rw [List.reverse_reverse] at this
  exact this
/-- words put one behind another -/
def putAll (f : S → S) (ks : List S) : List (S × S) := ks.foldl (fun W k => putS W k (f k)) []
theorem putAll_snoc {f : S → S} {ks : List S} {k : S} : putAll f (ks ++ [k]) = putS (putAll f ks) k (f k) := by
  unfold putAll
  rw [List.foldl_append]
  rfl
theorem putAll_keys {f : S → S} {j : S} (ks : List S) : j ∈ (putAll f ks).map (·.1) ↔ j ∈ ks := by
  induction ks using list_snoc with
  | nil => exact Iff.rfl
  | append_singleton ks k ih => rw [putAll_snoc, mem_put, ih, List.mem_append, List.mem_singleton]
theorem putAll_nd {f : S → S} (ks : List S) : ((putAll f ks).map (·.1)).Nodup := by
  induction ks using list_snoc with
  | nil => exact .nil
  | append_singleton ks k ih => rw [putAll_snoc]; exact nodup_put ih
theorem putAll_len {f : S → S} (ks : List S) : (putAll f ks).length ≤ ks.length := by
  induction ks using list_snoc with
  | nil => exact Nat.le_refl _
  | append_singleton ks k ih =>
    rw [putAll_snoc, List.length_append, List.length_singleton]
    have := len_put (k := k) (v := f k) (ws := putAll f ks)
    omega
theorem putAll_gw {f : S → S} {r j : S} (ks : List S) : gw (putAll f ks) r j = if j ∈ ks then f j else r := by
  induction ks using list_snoc with
  | nil => rfl
  | append_singleton ks k ih =>
    rw [putAll_snoc, gw_put, ih]
    by_cases e : j = k
    · rw [if_pos e, if_pos (by simp [e]), e]
    · rw [if_neg e]
      simp [e]
theorem putAll_vs {f : S → S} {p : S → Prop} (h : ∀ k, p (f k)) (ks : List S) : ∀ x ∈ (putAll f ks).map (·.2), p x := by
  induction ks using list_snoc with
  | nil => intro x hx; cases hx
  | append_singleton ks k ih => rw [putAll_snoc]; exact vals_put ih (h k)
theorem take_snoc {α : Type} {l : List α} {i : Nat} {x : α} (h : l[i]? = some x) : l.take (i + 1) = l.take i ++ [x] := by
  rw [List.take_add_one, h]
  rfl
/-- a dict comprehension over a list that stays -/
theorem dc_lst {K : PySem.W.Frag} {a : Addr} {xs : List V} {g : TG} {tt : TT} {tk tv : TE} {vs : List Nat} {σ : L2.St} {H1 : Hp} {D : Addr} {Qd : Hp → Prop} (Pv : Nat → Hp → Prop) (h0 : Pv 0 (upd H1 D (.dK []))) (hl : ∀ i H, i ≤ xs.length → Pv i H → SqL K H a xs)
    (hs : ∀ i x H, xs[i]? = some x → Pv i H → g x (wipe σ vs) H fun σ2 H2 => wipe σ2 vs = wipe σ vs ∧ tt σ2 H2 fun b H3 =>
      if b = true then tk σ2 H3 fun y H4 => tv σ2 H4 fun z H5 => ∃ kvs k, y = kV k ∧ H5 D = some (.dK kvs) ∧ kvs.length < sizeLine ∧ Pv (i + 1) (upd H5 D (.dK (putK kvs k z))) else Pv (i + 1) H3) (hd : ∀ H, Pv xs.length H → Qd H) :
    ∃ W : Nat → Nat → Hp → Prop, (∃ m, W 0 m (upd H1 D (.dK []))) ∧ ∀ i m H, W i m H →
      ((Itl K a).stop i H ∧ Qd H) ∨ ((Itl K a).go i H ∧ ∃ Nx : Hp → Prop, (∀ H', Nx H' → ∃ m', m' < m ∧ W (i + 1) m' H') ∧ ∀ x H', (Itl K a).yld i H x H' → g x (wipe σ vs) H' fun σ2 H2 => wipe σ2 vs = wipe σ vs ∧ tt σ2 H2 fun b H3 =>
        if b = true then tk σ2 H3 fun y H4 => tv σ2 H4 fun z H5 => ∃ kvs k, y = kV k ∧ H5 D = some (.dK kvs) ∧ kvs.length < sizeLine ∧ Nx (upd H5 D (.dK (putK kvs k z))) else Nx H3) := by
  refine ⟨fun i m H => m = xs.length - i ∧ i ≤ xs.length ∧ Pv i H, ⟨xs.length, by simp, Nat.zero_le _, h0⟩, ?_⟩
  rintro i m H ⟨rfl, hi, p⟩
  have q := hl i H hi p
  by_cases hlt : i < xs.length
  · refine .inr ⟨⟨xs, xs[i], q, by simp [hlt]⟩, Pv (i + 1), fun H' p' => ⟨xs.length - (i + 1), by omega, rfl, hlt, p'⟩, fun x H' y => ?_⟩
    obtain ⟨e, y⟩ := y
    subst e
    exact hs i x _ (y xs q) p
  · have e : i = xs.length := by omega
    subst e
    exact .inl ⟨⟨xs, q, Nat.le_refl _⟩, hd H p⟩
def mxW (x y : S) : S := if rk x < rk y then y else x
def mnW (x y : S) : S := if rk x < rk y then x else y
theorem mxW_w3 {x y : S} (hx : x ∈ W3) (hy : y ∈ W3) : mxW x y ∈ W3 := by unfold mxW; split <;> assumption
theorem mnW_w3 {x y : S} (hx : x ∈ W3) (hy : y ∈ W3) : mnW x y ∈ W3 := by unfold mnW; split <;> assumption
def keysB (ws us : List (S × S)) : List S := ws.map (·.1) ++ (us.map (·.1) ++ [oth])
def spBoth (C : Addr) : Sp := fun vs H Q _ => ∃ a b ws r us q, vs = [.ref a, .ref b] ∧ MkAt C H a ws r ∧ MkAt C H b us q ∧ ws.length ≤ 100 ∧ us.length ≤ 100 ∧ ∀ t H', Same H H' → H' t = some (.tup ((keysB ws us).map V.str)) → Q (.ref t) H'
def spBothX (K : PySem.W.Frag) (CM CO : Addr) : Sp := fun vs H Q E => ∃ x y t, vs = [x, y] ∧ TyX K H y t ∧ PySem.W.kitOne K t (.ref CM) = some false ∧ E (.ref CO) none H
def spJoin (pick : S → S → S) (CM : Addr) : Sp := fun vs H Q _ => ∃ a b ws r us q, vs = [.ref a, .ref b] ∧ MkAt CM H a ws r ∧ MkAt CM H b us q ∧ Fine ws r ∧ Fine us q ∧ ws.length ≤ 15 ∧ us.length ≤ 15 ∧ slf ∉ ws.map (·.1) ∧ slf ∉ us.map (·.1) ∧
  ∀ (H' : Hp) (c : Addr) (vs' : List (S × S)) (r' : S), Same H H' → H c = none → MkAt CM H' c vs' r' → Canon (putAll (fun k => pick (gw ws r k) (gw us q k)) (keysB ws us)) vs' r' → Q (.ref c) H'
def spJoinX (K : PySem.W.Frag) (CM CO : Addr) : Sp := spBothX K CM CO
abbrev nOr : List S := ["self", "other", "kinds", "pairs", "kind", "word", "last"]
section
variable {P : Program} {w : World} {K : PySem.W.Frag} {mg : PySem.Str → Option Value} {base : Heap} {C CM CT CO : Addr} {mc : Value}
theorem scBoth : FnScope ["one", "other"] ["one", "other"] (defScope sBoth) := ⟨rfl, rfl, rfl, by decide +kernel, rfl, by decide +kernel, by decide +kernel⟩
theorem ok_both {f fK p : Addr} {fd fdK : FuncData} (F : Fun K "_kinds_of_both" "_kinds_of_both" sBoth f fd) (T : Bare mg) (cf : ClsF K C) (is : IsF K C CM) (mM : mg "Marking" = some (.ref CM))
    (GK : FnOk P w K mg base CX0 1 fK fdK ["self"] (spKinds C)) (bK : Binds K fdK ["self"] []) (pK : PropOf K C "kinds" p fK) : FnOk P w K mg base CX0 3 f fd ["one", "other"] (spBoth C) := by
  refine F.ok scBoth (fun vs H Q E h => ?_) (fun cdv A outer s H vs Q E hr h => ?_)
  · obtain ⟨a, b, ws, r, us, q, rfl, _⟩ := h
    rfl
  · obtain ⟨a, b, ws, r, us, q, rfl, ⟨dx, d, ha, hd⟩, ⟨dy, e, hb, he⟩, l1, l2, k⟩ := h
    have hr1 : Room 2 _ := hr.mono (by decide)
    refine ⟨_, (pss_cons (ps_if (pt_not (pt_val (pe_callB call_isi (by rfl) T.isi (by decide +kernel) (pa_cons (pv 1) (pa_cons (pe_glob (v := .ref CM) rfl mM rfl) pa_nil))))) (pss_one ps_never) pss_nil)
      (pss_one (ps_ret (pe_tup (StX.pa_star (pe_prop (pv 0) cf.cl pK GK hr1 bK .nil pass0 rfl) (StX.pa_star (pe_prop (pv 1) cf.cl pK GK hr1 bK .nil pass0 rfl) (pa_cons pe_str pa_nil))))))), ?_⟩
    refine ⟨_, rfl, _, .ref CM, _, .ref CM, true, rfl, .own _, .base (.ins hb cf.cl is.ha is.hn is.htk is.hm), is.one, true, rfl, ?_⟩
    refine ⟨_, rfl, a, dx, _, rfl, ha, a, ws, r, rfl, ⟨dx, d, ha, hd⟩, fun p1 hp1 => ?_⟩
    have s1 : Same H (upd H p1 (.tup ((ws.map (·.1)).map V.str))) := same_upd hp1
    have e1 : (upd H p1 (.tup ((ws.map (·.1)).map V.str))) p1 = some (.tup ((ws.map (·.1)).map V.str)) := upd_same
    generalize upd H p1 (.tup ((ws.map (·.1)).map V.str)) = G1 at s1 e1 ⊢
    refine ⟨p1, _, rfl, .inl (.inl (.inl e1)), ?_⟩
    refine ⟨_, rfl, b, dy, _, rfl, s1 _ _ hb, b, us, q, rfl, ⟨dy, e, s1 _ _ hb, s1 _ _ he⟩, fun p2 hp2 => ?_⟩
    refine ⟨p2, _, rfl, .inl (.inl (.inl upd_same)), ?_, fun t ht => ?_⟩
    · rw [List.length_append, List.length_append, List.length_map, List.length_map, List.length_map, List.length_map, sizeLine_eq]
      simp only [List.length_cons, List.length_nil]
      omega
    · refine k t _ ((s1.trans (same_upd hp2)).trans (same_upd ht)) (upd_same.trans ?_)
      unfold keysB
      rw [List.map_append, List.map_append]
      rfl
theorem bad_both {f : Addr} {fd : FuncData} (F : Fun K "_kinds_of_both" "_kinds_of_both" sBoth f fd) (T : Bare mg) (N : ExV K mg "InvalidOperation" CO) (mM : mg "Marking" = some (.ref CM)) : FnOk P w K mg base (L2.CX P w) 3 f fd ["one", "other"] (spBothX K CM CO) := by
  refine F.okX scBoth (fun vs H Q E h => ?_) (fun cdv A outer s H vs Q E hr h => ?_)
  · obtain ⟨x, y, t, rfl, _⟩ := h
    rfl
  · obtain ⟨x, y, t, rfl, ty, kt, q⟩ := h
    refine ⟨_, (pss_cons (ps_if (pt_not (pt_val (pe_callB call_isi (by rfl) T.isi (by decide +kernel) (pa_cons (pv 1) (pa_cons (pe_glob (v := .ref CM) rfl mM rfl) pa_nil))))) (pss_one (ps_raise rfl (takes_of rfl rfl rfl rfl) (pmk_exm PySem.F.excBase_ValueError N.q N.i N.b N.t N.g N.k (by rfl) pe_str))) pss_nil) pss_never), ?_⟩
    exact ⟨_, rfl, _, .ref CM, _, .ref CM, false, rfl, .own _, ty, kt, false, rfl, q⟩
theorem canon_keys {W ws : List (S × S)} {r : S} (h : Canon W ws r) {k : S} (hk : k ∈ ws.map (·.1)) : k ∈ W.map (·.1) := by
  obtain ⟨rfl, ys, s1, n1, _, _, o1, rfl⟩ := h
  rw [kept_keys] at hk
  unfold keep at hk
  have := (List.mem_filter.mp hk).2
  simp only [decide_eq_true_eq] at this
  exact Classical.byContradiction fun z => this (gw_not z)
theorem wok_both {f : S → S} {ws us : List (S × S)} {r q : S} (fa : Fine ws r) (fb : Fine us q) (l1 : ws.length ≤ 15) (l2 : us.length ≤ 15) (h : ∀ k, f k ∈ W3) : Wok (putAll f (keysB ws us)) ∧ (putAll f (keysB ws us)).length ≤ 39 := by
  have hl : (keysB ws us).length ≤ 31 := by
    unfold keysB
    rw [List.length_append, List.length_append, List.length_map, List.length_map]
    simp only [List.length_cons, List.length_nil]
    omega
  have hl2 := putAll_len (f := f) (keysB ws us)
  refine ⟨⟨fun k hk => ?_, putAll_vs (p := fun v => v ∈ W3) h _, putAll_nd _, by omega⟩, by omega⟩
  rw [putAll_keys] at hk
  unfold keysB at hk
  rw [List.mem_append, List.mem_append, List.mem_singleton] at hk
  rcases hk with hk | hk | hk
  · exact fa.nm k hk
  · exact fb.nm k hk
  · rw [hk]; exact nm_oth
theorem slf_both {ws us : List (S × S)} (h1 : slf ∉ ws.map (·.1)) (h2 : slf ∉ us.map (·.1)) : slf ∉ keysB ws us := fun h => by
  unfold keysB at h
  rw [List.mem_append, List.mem_append, List.mem_singleton] at h
  rcases h with h | h | h
  · exact h1 h
  · exact h2 h
  · exact absurd h (show ¬ slf = oth by decide +kernel)
theorem scOr : FnScope nOr ["self", "other"] (defScope sOr) := ⟨rfl, rfl, rfl, by decide +kernel, rfl, by decide +kernel, by decide +kernel⟩
theorem ok_or {f fB fW fL fO pO : Addr} {fd fdB fdW fdL : FuncData} (F : Fun K "__or__" "Marking.__or__" sOr f fd) (T : Bare mg) (cf : ClsF K CM)
    (GB : FnOk P w K mg base CX0 3 fB fdB ["one", "other"] (spBoth CM)) (bB : Binds K fdB ["one", "other"] []) (kB : PySem.W.keepIn K (.ref fB) = true) (mB : mg "_kinds_of_both" = some (.ref fB))
    (GW : FnOk P w K mg base CX0 1 fW fdW ["self", "kind"] (spWordOf CM)) (bW : Binds K fdW ["self", "kind"] []) (mW : Meth K CM "word_of" fW)
    (GL : FnOk P w K mg base CX0 1 fL fdL ["word", "other"] spLess) (bL : Binds K fdL ["word", "other"] []) (kL : PySem.W.keepIn K (.ref fL) = true) (mL : mg "is_less" = some (.ref fL))
    (mM : mg "Marking" = some (.ref CM)) (cr : CRead K CM mc) (cO : CMet K CM mc "of" pO fO) (GO : FnR P w K mg base CX0 6 fO (spOf CM CT)) : FnOk P w K mg base CX0 8 f fd ["self", "other"] (spJoin mxW CM) := by
  refine F.ok scOr (fun vs H Q E h => ?_) (fun cdv A outer s H vs Q E hr h => ?_)
  · obtain ⟨a, b, ws, r, us, q, rfl, _⟩ := h
    rfl
  · obtain ⟨a, b, ws, r, us, q, rfl, ⟨dx, d, ha, hd⟩, ⟨dy, e, hb, he⟩, fa, fb, l1, l2, n1, n2, k⟩ := h
    have hr3 : Room 3 _ := hr.mono (by decide)
    have hr1 : Room 1 _ := hr.mono (by decide)
    have hr6 : Room 6 _ := hr.mono (by decide)
    have hsz : (1000 : Nat) ≤ sizeLine := by rw [sizeLine_eq]; decide
    refine ⟨_, (pss_cons (ps_set (i := 2) scOr.nd rfl (Or.inl rfl) (pe_call GB hr3 (by rfl) mB kB bB .nil pass0 (pa_cons (pv 0) (pa_cons (pv 1) pa_nil))))
      (pss_cons (ps_setLc (i := 3) (own := [("kind", 4)]) (g := gName 4) (tt := tYes) rfl scOr.nd rfl rfl (sw_true rfl rfl rfl (by decide +kernel)) (pi_tup (pv 2)) (blkOk_by (own := [("kind", 4)]) (N := nOr) (sc := defScope sOr) (by decide +kernel)) (fun _ _ _ _ _ => pg_name (i := 4) scOr.nd rfl (Or.inl rfl)) (fun _ _ _ _ _ => pts_nil) (fun _ _ _ _ _ => (pe_tup (pa_cons (pv 4) (pa_cons (pe_meth (pv 0) cf.cl mW GW hr1 bW .nil pass0 (pa_cons (pv 4) pa_nil)) (pa_cons (pe_meth (pv 1) cf.cl mW GW hr1 bW .nil pass0 (pa_cons (pv 4) pa_nil)) pa_nil))))))
      (pss_one (ps_ret (pe_cmeth (pe_glob (v := .ref CM) rfl mM rfl) cr cO GO hr6 pass0 (pa_cons (pe_dc (own := [("kind", 4), ("word", 5), ("last", 6)]) (g := gTup K 3 (gCons (gName 4) (gCons (gName 5) (gCons (gName 6) gNil)))) (tt := tYes) rfl scOr.nd (pi_list (pv 3)) (blkOk_by (own := [("kind", 4), ("word", 5), ("last", 6)]) (N := nOr) (sc := defScope sOr) (by decide +kernel)) (fun _ _ _ _ _ => pg_tup rfl (pgs_cons (pg_name (i := 4) scOr.nd rfl (Or.inl rfl)) (pgs_cons (pg_name (i := 5) scOr.nd rfl (Or.inl rfl)) (pgs_cons (pg_name (i := 6) scOr.nd rfl (Or.inl rfl)) pgs_nil)))) (fun _ _ _ _ _ => pts_nil) (fun _ _ _ _ _ => (pv 4)) (fun _ _ _ _ _ => (pe_ifExp (pt_val (pe_call GL hr1 (by rfl) mL kL bL .nil pass0 (pa_cons (pv 5) (pa_cons (pv 6) pa_nil)))) (pv 6) (pv 5)))) pa_nil)))))), ?_⟩
    refine ⟨_, rfl, _, rfl, a, b, ws, r, us, q, rfl, ⟨dx, d, ha, hd⟩, ⟨dy, e, hb, he⟩, by omega, by omega, fun t G sG ht => ?_⟩
    obtain ⟨ok, l39⟩ := wok_both fa fb l1 l2 (f := fun k => mxW (gw ws r k) (gw us q k)) fun k => mxW_w3 (gw_w3 fa k) (gw_w3 fb k)
    have hsl : slf ∉ (putAll (fun k => mxW (gw ws r k) (gw us q k)) (keysB ws us)).map (·.1) := fun z => slf_both n1 n2 ((putAll_keys _).mp z)
    have hkl : (keysB ws us).length ≤ 31 := by
      unfold keysB
      rw [List.length_append, List.length_append, List.length_map, List.length_map]
      simp only [List.length_cons, List.length_nil]
      omega
    generalize keysB ws us = ks at ht k ok l39 hsl hkl
    refine ⟨_, rfl, t, rfl, ⟨_, SqT.of ht⟩, fun D n0 => ?_⟩
    refine lc_gr (J := Itt K t) (n := ks.length) (fun i ys G' => ys.length = i ∧ (∀ j k, j < i → ks[j]? = some k → ∃ p, ys[j]? = some (.ref p) ∧ G' p = some (.tup [.str k, .str (gw ws r k), .str (gw us q k)])) ∧ ∀ b u, G b = some u → G' b = some u) (by omega)
      (fun i ys G' h1 hi => ⟨ks.map V.str, .str ks[i], SqT.of (h1.2.2 _ _ ht), by rw [List.getElem?_map, List.getElem?_eq_getElem hi]; rfl⟩) (fun ys G' h1 => ⟨ks.map V.str, SqT.of (h1.2.2 _ _ ht), by rw [List.length_map]; exact Nat.le_refl _⟩) ⟨rfl, fun j k z => absurd z (Nat.not_lt_zero _), fun b u eb => by rw [upd_ne (ne_of_none eb n0)]; exact eb⟩
      (fun i x ys G' G'' R Nn hi hD hP hy hR hN => ⟨rfl, ?_⟩) (fun ys G' hD hP => ?_)
    · obtain ⟨hl, hat, hk⟩ := hP
      obtain ⟨e2, hx⟩ := hy
      subst e2
      have hx2 := hx _ (SqT.of (hk _ _ ht))
      rw [List.getElem?_map, List.getElem?_eq_getElem hi] at hx2
      obtain rfl : V.str ks[i] = x := Option.some.inj hx2
      have ha' := hk _ _ (sG _ _ ha)
      have hd' := hk _ _ (sG _ _ hd)
      have hb' := hk _ _ (sG _ _ hb)
      have he' := hk _ _ (sG _ _ he)
      refine ⟨_, rfl, _, rfl, a, dx, _, rfl, ha', no_lk (by decide +kernel) (by decide +kernel), _, rfl, a, ws, r, _, rfl, ⟨dx, d, ha', hd'⟩, _, rfl, b, dy, _, rfl, hb', no_lk (by decide +kernel) (by decide +kernel), _, rfl, b, us, q, _, rfl, ⟨dy, e, hb', he'⟩, by show 3 ≤ sizeLine; omega, fun p np => ?_⟩
      have hDp : D ≠ p := ne_of_none hD np
      refine hR _ _ (by rw [upd_ne hDp]; exact hD) ⟨by rw [List.length_append, List.length_singleton, hl], fun j k hj hjk => ?_, fun b u eb => ?_⟩
      · by_cases hji : j < i
        · obtain ⟨p', h1, h2⟩ := hat j k hji hjk
          have hp' : p' ≠ D := ne_of h2 hD (fun z => by cases z)
          exact ⟨p', by rw [List.getElem?_append_left (by omega)]; exact h1, by rw [upd_ne hp', upd_ne (ne_of_none h2 np)]; exact h2⟩
        · have hji' : j = i := by omega
          subst hji'
          rw [List.getElem?_eq_getElem hi] at hjk
          obtain rfl := Option.some.inj hjk
          refine ⟨p, by rw [List.getElem?_append_right (by omega), hl, Nat.sub_self]; rfl, by rw [upd_ne hDp.symm]; exact upd_same⟩
      · have h1 := hk _ _ eb
        rw [upd_ne (ne_of_none eb n0), upd_ne (ne_of_none h1 np)]
        exact h1
    · obtain ⟨hl, hat, hk⟩ := hP
      refine ⟨rfl, _, rfl, D, rfl, ⟨_, SqL.of hD⟩, fun E0 m0 => ?_⟩
      have hDE : D ≠ E0 := ne_of_none hD m0
      refine dc_lst (K := K) (a := D) (xs := ys) (fun i G2 => G2 = upd G' E0 (.dK (wd (putAll (fun k => mxW (gw ws r k) (gw us q k)) (ks.take i))))) rfl (fun i G2 _ e2 => SqL.of (by rw [e2, upd_ne hDE]; exact hD)) (fun i x G2 hx e2 => ?_) (fun G2 e2 => ?_)
      · subst e2
        have hi : i < ks.length := by have := (List.getElem?_eq_some_iff.mp hx).1; omega
        have hki : ks[i]? = some ks[i] := List.getElem?_eq_getElem hi
        obtain ⟨p, h1, h2⟩ := hat i ks[i] hi hki
        rw [hx] at h1
        obtain rfl := Option.some.inj h1
        refine ⟨p, _, rfl, .inl (.inl (by rw [upd_ne (ne_of_none h2 m0)]; exact h2)), rfl, _, _, rfl, _, _, rfl, _, _, rfl, rfl, rfl, ?_⟩
        refine ⟨_, rfl, _, rfl, _, rfl, _, _, rfl, gw_w3 fa _, gw_w3 fb _, ?_⟩
        have fin : ∀ z : S, z = mxW (gw ws r ks[i]) (gw us q ks[i]) → ∃ kvs k0, V.str ks[i] = kV k0 ∧ (upd G' E0 (.dK (wd (putAll (fun k => mxW (gw ws r k) (gw us q k)) (ks.take i))))) E0 = some (.dK kvs) ∧ kvs.length < sizeLine ∧ (upd (upd G' E0 (.dK (wd (putAll (fun k => mxW (gw ws r k) (gw us q k)) (ks.take i))))) E0 (.dK (putK kvs k0 (.str z)))) = upd G' E0 (.dK (wd (putAll (fun k => mxW (gw ws r k) (gw us q k)) (ks.take (i + 1))))) := fun z ez => by
          refine ⟨_, Sum.inr ks[i], rfl, upd_same, ?_, ?_⟩
          · have := putAll_len (f := fun k => mxW (gw ws r k) (gw us q k)) (ks.take i)
            rw [List.length_take] at this
            rw [wd_len]
            omega
          · rw [upd_upd, put_wd, take_snoc hki, putAll_snoc, ez]
        cases hc : decide (rk (gw ws r ks[i]) < rk (gw us q ks[i])) with
        | true => exact ⟨true, rfl, _, rfl, fin _ (by unfold mxW; rw [if_pos (of_decide_eq_true hc)])⟩
        | false => exact ⟨false, rfl, _, rfl, fin _ (by unfold mxW; rw [if_neg (of_decide_eq_false hc)])⟩
      · subst e2
        have hys : ks.take ys.length = ks := List.take_of_length_le (by omega)
        rw [hys]
        have s3 : Same H (upd G' E0 (.dK (wd (putAll (fun k => mxW (gw ws r k) (gw us q k)) ks)))) := fun b u eb => by
          have h1 := hk _ _ (sG _ _ eb)
          rw [upd_ne (ne_of_none h1 m0)]
          exact h1
        refine ⟨E0, _, rfl, upd_same, ok, l39, fun H' c vs' r' s4 nc m cn => ?_⟩
        unfold clsOf at m
        rw [if_neg hsl] at m
        exact k H' c vs' r' (s3.trans s4) (s3.free nc) m cn
theorem bad_or {f fB : Addr} {fd fdB : FuncData} (F : Fun K "__or__" "Marking.__or__" sOr f fd) (GB : FnOk P w K mg base (L2.CX P w) 3 fB fdB ["one", "other"] (spBothX K CM CO)) (bB : Binds K fdB ["one", "other"] []) (kB : PySem.W.keepIn K (.ref fB) = true) (mB : mg "_kinds_of_both" = some (.ref fB)) : FnOk P w K mg base (L2.CX P w) 4 f fd ["self", "other"] (spJoinX K CM CO) := by
  refine F.okX scOr (fun vs H Q E h => ?_) (fun cdv A outer s H vs Q E hr h => ?_)
  · obtain ⟨x, y, t, rfl, _⟩ := h
    rfl
  · obtain ⟨x, y, t, rfl, ty, kt, q⟩ := h
    refine ⟨_, (pss_cons (ps_set (i := 2) scOr.nd rfl (Or.inl rfl) (pe_call (E := E) GB hr (by rfl) mB kB bB .nil (passes_call (takes_of rfl rfl rfl rfl) fun _ _ _ _ h => h) (pa_cons (pv 0) (pa_cons (pv 1) pa_nil)))) pss_never), ?_⟩
    exact ⟨_, rfl, _, rfl, x, y, t, rfl, ty, kt, q⟩
theorem scAnd : FnScope nOr ["self", "other"] (defScope sAnd) := ⟨rfl, rfl, rfl, by decide +kernel, rfl, by decide +kernel, by decide +kernel⟩
theorem ok_and {f fB fW fL fO pO : Addr} {fd fdB fdW fdL : FuncData} (F : Fun K "__and__" "Marking.__and__" sAnd f fd) (T : Bare mg) (cf : ClsF K CM)
    (GB : FnOk P w K mg base CX0 3 fB fdB ["one", "other"] (spBoth CM)) (bB : Binds K fdB ["one", "other"] []) (kB : PySem.W.keepIn K (.ref fB) = true) (mB : mg "_kinds_of_both" = some (.ref fB))
    (GW : FnOk P w K mg base CX0 1 fW fdW ["self", "kind"] (spWordOf CM)) (bW : Binds K fdW ["self", "kind"] []) (mW : Meth K CM "word_of" fW)
    (GL : FnOk P w K mg base CX0 1 fL fdL ["word", "other"] spLess) (bL : Binds K fdL ["word", "other"] []) (kL : PySem.W.keepIn K (.ref fL) = true) (mL : mg "is_less" = some (.ref fL))
    (mM : mg "Marking" = some (.ref CM)) (cr : CRead K CM mc) (cO : CMet K CM mc "of" pO fO) (GO : FnR P w K mg base CX0 6 fO (spOf CM CT)) : FnOk P w K mg base CX0 8 f fd ["self", "other"] (spJoin mnW CM) := by
  refine F.ok scAnd (fun vs H Q E h => ?_) (fun cdv A outer s H vs Q E hr h => ?_)
  · obtain ⟨a, b, ws, r, us, q, rfl, _⟩ := h
    rfl
  · obtain ⟨a, b, ws, r, us, q, rfl, ⟨dx, d, ha, hd⟩, ⟨dy, e, hb, he⟩, fa, fb, l1, l2, n1, n2, k⟩ := h
    have hr3 : Room 3 _ := hr.mono (by decide)
    have hr1 : Room 1 _ := hr.mono (by decide)
    have hr6 : Room 6 _ := hr.mono (by decide)
    have hsz : (1000 : Nat) ≤ sizeLine := by rw [sizeLine_eq]; decide
    refine ⟨_, (pss_cons (ps_set (i := 2) scAnd.nd rfl (Or.inl rfl) (pe_call GB hr3 (by rfl) mB kB bB .nil pass0 (pa_cons (pv 0) (pa_cons (pv 1) pa_nil))))
      (pss_cons (ps_setLc (i := 3) (own := [("kind", 4)]) (g := gName 4) (tt := tYes) rfl scAnd.nd rfl rfl (sw_true rfl rfl rfl (by decide +kernel)) (pi_tup (pv 2)) (blkOk_by (own := [("kind", 4)]) (N := nOr) (sc := defScope sAnd) (by decide +kernel)) (fun _ _ _ _ _ => pg_name (i := 4) scAnd.nd rfl (Or.inl rfl)) (fun _ _ _ _ _ => pts_nil) (fun _ _ _ _ _ => (pe_tup (pa_cons (pv 4) (pa_cons (pe_meth (pv 0) cf.cl mW GW hr1 bW .nil pass0 (pa_cons (pv 4) pa_nil)) (pa_cons (pe_meth (pv 1) cf.cl mW GW hr1 bW .nil pass0 (pa_cons (pv 4) pa_nil)) pa_nil))))))
      (pss_one (ps_ret (pe_cmeth (pe_glob (v := .ref CM) rfl mM rfl) cr cO GO hr6 pass0 (pa_cons (pe_dc (own := [("kind", 4), ("word", 5), ("last", 6)]) (g := gTup K 3 (gCons (gName 4) (gCons (gName 5) (gCons (gName 6) gNil)))) (tt := tYes) rfl scAnd.nd (pi_list (pv 3)) (blkOk_by (own := [("kind", 4), ("word", 5), ("last", 6)]) (N := nOr) (sc := defScope sAnd) (by decide +kernel)) (fun _ _ _ _ _ => pg_tup rfl (pgs_cons (pg_name (i := 4) scAnd.nd rfl (Or.inl rfl)) (pgs_cons (pg_name (i := 5) scAnd.nd rfl (Or.inl rfl)) (pgs_cons (pg_name (i := 6) scAnd.nd rfl (Or.inl rfl)) pgs_nil)))) (fun _ _ _ _ _ => pts_nil) (fun _ _ _ _ _ => (pv 4)) (fun _ _ _ _ _ => (pe_ifExp (pt_val (pe_call GL hr1 (by rfl) mL kL bL .nil pass0 (pa_cons (pv 5) (pa_cons (pv 6) pa_nil)))) (pv 5) (pv 6)))) pa_nil)))))), ?_⟩
    refine ⟨_, rfl, _, rfl, a, b, ws, r, us, q, rfl, ⟨dx, d, ha, hd⟩, ⟨dy, e, hb, he⟩, by omega, by omega, fun t G sG ht => ?_⟩
    obtain ⟨ok, l39⟩ := wok_both fa fb l1 l2 (f := fun k => mnW (gw ws r k) (gw us q k)) fun k => mnW_w3 (gw_w3 fa k) (gw_w3 fb k)
    have hsl : slf ∉ (putAll (fun k => mnW (gw ws r k) (gw us q k)) (keysB ws us)).map (·.1) := fun z => slf_both n1 n2 ((putAll_keys _).mp z)
    have hkl : (keysB ws us).length ≤ 31 := by
      unfold keysB
      rw [List.length_append, List.length_append, List.length_map, List.length_map]
      simp only [List.length_cons, List.length_nil]
      omega
    generalize keysB ws us = ks at ht k ok l39 hsl hkl
    refine ⟨_, rfl, t, rfl, ⟨_, SqT.of ht⟩, fun D n0 => ?_⟩
    refine lc_gr (J := Itt K t) (n := ks.length) (fun i ys G' => ys.length = i ∧ (∀ j k, j < i → ks[j]? = some k → ∃ p, ys[j]? = some (.ref p) ∧ G' p = some (.tup [.str k, .str (gw ws r k), .str (gw us q k)])) ∧ ∀ b u, G b = some u → G' b = some u) (by omega)
      (fun i ys G' h1 hi => ⟨ks.map V.str, .str ks[i], SqT.of (h1.2.2 _ _ ht), by rw [List.getElem?_map, List.getElem?_eq_getElem hi]; rfl⟩) (fun ys G' h1 => ⟨ks.map V.str, SqT.of (h1.2.2 _ _ ht), by rw [List.length_map]; exact Nat.le_refl _⟩) ⟨rfl, fun j k z => absurd z (Nat.not_lt_zero _), fun b u eb => by rw [upd_ne (ne_of_none eb n0)]; exact eb⟩
      (fun i x ys G' G'' R Nn hi hD hP hy hR hN => ⟨rfl, ?_⟩) (fun ys G' hD hP => ?_)
    · obtain ⟨hl, hat, hk⟩ := hP
      obtain ⟨e2, hx⟩ := hy
      subst e2
      have hx2 := hx _ (SqT.of (hk _ _ ht))
      rw [List.getElem?_map, List.getElem?_eq_getElem hi] at hx2
      obtain rfl : V.str ks[i] = x := Option.some.inj hx2
      have ha' := hk _ _ (sG _ _ ha)
      have hd' := hk _ _ (sG _ _ hd)
      have hb' := hk _ _ (sG _ _ hb)
      have he' := hk _ _ (sG _ _ he)
      refine ⟨_, rfl, _, rfl, a, dx, _, rfl, ha', no_lk (by decide +kernel) (by decide +kernel), _, rfl, a, ws, r, _, rfl, ⟨dx, d, ha', hd'⟩, _, rfl, b, dy, _, rfl, hb', no_lk (by decide +kernel) (by decide +kernel), _, rfl, b, us, q, _, rfl, ⟨dy, e, hb', he'⟩, by show 3 ≤ sizeLine; omega, fun p np => ?_⟩
      have hDp : D ≠ p := ne_of_none hD np
      refine hR _ _ (by rw [upd_ne hDp]; exact hD) ⟨by rw [List.length_append, List.length_singleton, hl], fun j k hj hjk => ?_, fun b u eb => ?_⟩
      · by_cases hji : j < i
        · obtain ⟨p', h1, h2⟩ := hat j k hji hjk
          have hp' : p' ≠ D := ne_of h2 hD (fun z => by cases z)
          exact ⟨p', by rw [List.getElem?_append_left (by omega)]; exact h1, by rw [upd_ne hp', upd_ne (ne_of_none h2 np)]; exact h2⟩
        · have hji' : j = i := by omega
          subst hji'
          rw [List.getElem?_eq_getElem hi] at hjk
          obtain rfl := Option.some.inj hjk
          refine ⟨p, by rw [List.getElem?_append_right (by omega), hl, Nat.sub_self]; rfl, by rw [upd_ne hDp.symm]; exact upd_same⟩
      · have h1 := hk _ _ eb
        rw [upd_ne (ne_of_none eb n0), upd_ne (ne_of_none h1 np)]
        exact h1
    · obtain ⟨hl, hat, hk⟩ := hP
      refine ⟨rfl, _, rfl, D, rfl, ⟨_, SqL.of hD⟩, fun E0 m0 => ?_⟩
      have hDE : D ≠ E0 := ne_of_none hD m0
      refine dc_lst (K := K) (a := D) (xs := ys) (fun i G2 => G2 = upd G' E0 (.dK (wd (putAll (fun k => mnW (gw ws r k) (gw us q k)) (ks.take i))))) rfl (fun i G2 _ e2 => SqL.of (by rw [e2, upd_ne hDE]; exact hD)) (fun i x G2 hx e2 => ?_) (fun G2 e2 => ?_)
      · subst e2
        have hi : i < ks.length := by have := (List.getElem?_eq_some_iff.mp hx).1; omega
        have hki : ks[i]? = some ks[i] := List.getElem?_eq_getElem hi
        obtain ⟨p, h1, h2⟩ := hat i ks[i] hi hki
        rw [hx] at h1
        obtain rfl := Option.some.inj h1
        refine ⟨p, _, rfl, .inl (.inl (by rw [upd_ne (ne_of_none h2 m0)]; exact h2)), rfl, _, _, rfl, _, _, rfl, _, _, rfl, rfl, rfl, ?_⟩
        refine ⟨_, rfl, _, rfl, _, rfl, _, _, rfl, gw_w3 fa _, gw_w3 fb _, ?_⟩
        have fin : ∀ z : S, z = mnW (gw ws r ks[i]) (gw us q ks[i]) → ∃ kvs k0, V.str ks[i] = kV k0 ∧ (upd G' E0 (.dK (wd (putAll (fun k => mnW (gw ws r k) (gw us q k)) (ks.take i))))) E0 = some (.dK kvs) ∧ kvs.length < sizeLine ∧ (upd (upd G' E0 (.dK (wd (putAll (fun k => mnW (gw ws r k) (gw us q k)) (ks.take i))))) E0 (.dK (putK kvs k0 (.str z)))) = upd G' E0 (.dK (wd (putAll (fun k => mnW (gw ws r k) (gw us q k)) (ks.take (i + 1))))) := fun z ez => by
          refine ⟨_, Sum.inr ks[i], rfl, upd_same, ?_, ?_⟩
          · have := putAll_len (f := fun k => mnW (gw ws r k) (gw us q k)) (ks.take i)
            rw [List.length_take] at this
            rw [wd_len]
            omega
          · rw [upd_upd, put_wd, take_snoc hki, putAll_snoc, ez]
        cases hc : decide (rk (gw ws r ks[i]) < rk (gw us q ks[i])) with
        | true => exact ⟨true, rfl, _, rfl, fin _ (by unfold mnW; rw [if_pos (of_decide_eq_true hc)])⟩
        | false => exact ⟨false, rfl, _, rfl, fin _ (by unfold mnW; rw [if_neg (of_decide_eq_false hc)])⟩
      · subst e2
        have hys : ks.take ys.length = ks := List.take_of_length_le (by omega)
        rw [hys]
        have s3 : Same H (upd G' E0 (.dK (wd (putAll (fun k => mnW (gw ws r k) (gw us q k)) ks)))) := fun b u eb => by
          have h1 := hk _ _ (sG _ _ eb)
          rw [upd_ne (ne_of_none h1 m0)]
          exact h1
        refine ⟨E0, _, rfl, upd_same, ok, l39, fun H' c vs' r' s4 nc m cn => ?_⟩
        unfold clsOf at m
        rw [if_neg hsl] at m
        exact k H' c vs' r' (s3.trans s4) (s3.free nc) m cn
theorem bad_and {f fB : Addr} {fd fdB : FuncData} (F : Fun K "__and__" "Marking.__and__" sAnd f fd) (GB : FnOk P w K mg base (L2.CX P w) 3 fB fdB ["one", "other"] (spBothX K CM CO)) (bB : Binds K fdB ["one", "other"] []) (kB : PySem.W.keepIn K (.ref fB) = true) (mB : mg "_kinds_of_both" = some (.ref fB)) : FnOk P w K mg base (L2.CX P w) 4 f fd ["self", "other"] (spJoinX K CM CO) := by
  refine F.okX scAnd (fun vs H Q E h => ?_) (fun cdv A outer s H vs Q E hr h => ?_)
  · obtain ⟨x, y, t, rfl, _⟩ := h
    rfl
  · obtain ⟨x, y, t, rfl, ty, kt, q⟩ := h
    refine ⟨_, (pss_cons (ps_set (i := 2) scAnd.nd rfl (Or.inl rfl) (pe_call (E := E) GB hr (by rfl) mB kB bB .nil (passes_call (takes_of rfl rfl rfl rfl) fun _ _ _ _ h => h) (pa_cons (pv 0) (pa_cons (pv 1) pa_nil)))) pss_never), ?_⟩
    exact ⟨_, rfl, _, rfl, x, y, t, rfl, ty, kt, q⟩

end
end M46

/-! _law_word, _law_level, _law_joined, _law_is_within. -/
namespace M46
open PySem PySem.Spec PyProof.Rows L2 R0 K1 ClX StX

abbrev sLWord : Stmt := top 54
abbrev sLevel : Stmt := top 55
abbrev sJoined : Stmt := top 56
abbrev sWithin : Stmt := top 57
theorem rest_of {pl : List (S × S)} {r : S} (h : oth ∈ pl.map (·.1)) : gw pl r oth = rest pl := gw_any h
theorem dg_mem {H : Hp} {d : Addr} {pl : List (S × S)} {k : S} (hd : H d = some (.dK (wd pl))) (hk : k ∈ pl.map (·.1)) : DGet H d (.str k) (some (.str (gw pl (rest pl) k))) := by
  rw [← val_mem (r := rest pl) hk]
  exact DGet.k (k := Sum.inr k) hd
/-- the word of each kind by a plan -/
def pw (pl : List (S × S)) (k : S) : S := gw pl (rest pl) k
theorem pw_w3 {pl : List (S × S)} (h : ∀ v ∈ pl.map (·.2), v ∈ W3) (k : S) : pw pl k ∈ W3 := by
  unfold pw
  by_cases m : k ∈ pl.map (·.1)
  · exact h _ (gw_mem m)
  · rw [gw_not m]; exact rest_w3 h
theorem pw_not {pl : List (S × S)} (h : oth ∈ pl.map (·.1)) {k : S} (hk : k ∉ pl.map (·.1)) : pw pl k = pw pl oth := by
  unfold pw
  rw [gw_not hk, rest_of h]
/-- at most -/
noncomputable def leG (f g : S → S) : Bool := @decide (∀ k, rk (f k) ≤ rk (g k)) (Classical.propDecidable _)
theorem leG_iff {f g : S → S} : leG f g = true ↔ ∀ k, rk (f k) ≤ rk (g k) := by
  unfold leG
  exact @decide_eq_true_iff _ (Classical.propDecidable _)
theorem leG_no {f g : S → S} {k : S} (h : ¬ rk (f k) ≤ rk (g k)) : leG f g = false := by
  cases e : leG f g with
  | false => rfl
  | true => exact absurd (leG_iff.mp e k) h
def spLWord : Sp := fun vs H Q _ => ∃ (d : Addr) (k : S) (pl : List (S × S)), vs = [.ref d, .str k] ∧ H d = some (.dK (wd pl)) ∧ oth ∈ pl.map (·.1) ∧ Q (.str (pw pl k)) H
def spLevel : Sp := fun vs H Q _ => ∃ v : S, vs = [.str v] ∧ v ∈ W3 ∧ ∀ H', Same H H' → Q (.int (rk v : Nat)) H'
def pickW (b : Bool) (x y : S) : S := if b then mxW x y else mnW x y
theorem pickW_w3 {b : Bool} {x y : S} (hx : x ∈ W3) (hy : y ∈ W3) : pickW b x y ∈ W3 := by
  unfold pickW
  split
  · exact mxW_w3 hx hy
  · exact mnW_w3 hx hy
def spJoined : Sp := fun vs H Q _ => ∃ (d e : Addr) (b : Bool) (p1 p2 : List (S × S)), vs = [.ref d, .ref e, .bl b] ∧ H d = some (.dK (wd p1)) ∧ H e = some (.dK (wd p2)) ∧ oth ∈ p1.map (·.1) ∧ oth ∈ p2.map (·.1) ∧ (∀ v ∈ p1.map (·.2), v ∈ W3) ∧ (∀ v ∈ p2.map (·.2), v ∈ W3) ∧ p1.length ≤ 20 ∧ p2.length ≤ 20 ∧
  ∀ (D : Addr) (H' : Hp) (js : List S), Same H H' → H D = none → (∀ k, k ∈ js ↔ k ∈ p1.map (·.1) ∨ k ∈ p2.map (·.1)) → H' D = some (.dK (wd (putAll (fun k => pickW b (pw p1 k) (pw p2 k)) js))) → Q (.ref D) H'
def spWithin : Sp := fun vs H Q _ => ∃ (d e : Addr) (p1 p2 : List (S × S)), vs = [.ref d, .ref e] ∧ H d = some (.dK (wd p1)) ∧ H e = some (.dK (wd p2)) ∧ oth ∈ p1.map (·.1) ∧ oth ∈ p2.map (·.1) ∧ (∀ v ∈ p1.map (·.2), v ∈ W3) ∧ (∀ v ∈ p2.map (·.2), v ∈ W3) ∧ p1.length ≤ 20 ∧ p2.length ≤ 20 ∧
  ∀ H', Same H H' → Q (.bl (leG (pw p1) (pw p2))) H'
theorem w3_idx {x : S} (h : x ∈ W3) : (W3.map V.str)[rk x]? = some (.str x) := by rw [List.getElem?_map, (w3_at h).1]; rfl
theorem w3_flat : (W3.map V.str).all flatV = true := rfl
theorem w3_first {x : S} (h : x ∈ W3) : ∀ (m : Nat) (z : V), m < rk x → (W3.map V.str)[m]? = some z → eqV z (.str x) = false := fun m z hm hz => by
  rw [List.getElem?_map] at hz
  cases e : W3[m]? with
  | none => rw [e] at hz; cases hz
  | some y =>
    rw [e] at hz
    obtain rfl := Option.some.inj hz
    have := (w3_at h).2 m hm
    show (y == x) = false
    refine beq_eq_false_iff_ne.mpr fun z => this ?_
    rw [e, z]
theorem rk_lt {x : S} (h : x ∈ W3) : rk x < 3 := (List.getElem?_eq_some_iff.mp (w3_at h).1).1
abbrev nJoined : List S := ["_law_first", "_law_second", "_law_is_greater", "_law_found", "_law_kind", "_law_low", "_law_high"]
abbrev nWithin : List S := ["_law_first", "_law_second", "_law_kind"]
def fNew (ks : List S) : V → Option V
  | .str k => if k ∈ ks then none else some (.str k)
  | _ => none
def newOf (ks js : List S) : List S := js.filter fun k => !decide (k ∈ ks)
theorem newOf_len (ks js : List S) : (newOf ks js).length ≤ js.length := List.length_filter_le _ _
theorem newOf_mem {ks js : List S} (k : S) : k ∈ ks ++ newOf ks js ↔ k ∈ ks ∨ k ∈ js := by
  unfold newOf
  rw [List.mem_append, List.mem_filter]
  by_cases h1 : k ∈ ks
  · simp only [h1, true_or]
  · simp only [h1, decide_false, Bool.not_false, and_true]
theorem fm_new (ks : List S) : ∀ js : List S, (js.map V.str).filterMap (fNew ks) = (newOf ks js).map V.str
  | [] => rfl
  | k :: js => by
    rw [List.map_cons]
    by_cases h : k ∈ ks
    · rw [List.filterMap_cons_none (by show (if k ∈ ks then none else _) = _; rw [if_pos h]), fm_new]
      unfold newOf
      rw [List.filter_cons_of_neg (by simp [h])]
    · rw [List.filterMap_cons_some (b := V.str k) (by show (if k ∈ ks then none else _) = _; rw [if_neg h]), fm_new]
      unfold newOf
      rw [List.filter_cons_of_pos (by simp [h])]
      rfl
theorem str_at' {ks : List S} {i : Nat} {x : V} (h : (ks.map V.str)[i]? = some x) : ∃ k, ks[i]? = some k ∧ x = .str k := by
  rw [List.getElem?_map] at h
  cases e : ks[i]? with
  | none => rw [e] at h; cases h
  | some k => rw [e] at h; exact ⟨k, rfl, (Option.some.inj h).symm⟩
section
variable {P : Program} {w : World} {K : PySem.W.Frag} {mg : PySem.Str → Option Value} {base : Heap}
theorem scLWord : FnScope ["_law_words_here", "_law_kind"] ["_law_words_here", "_law_kind"] (defScope sLWord) := ⟨rfl, rfl, rfl, by decide +kernel, rfl, by decide +kernel, by decide +kernel⟩
theorem ok_lword {f : Addr} {fd : FuncData} (F : Fun K "_law_word" "_law_word" sLWord f fd) : FnOk P w K mg base CX0 1 f fd ["_law_words_here", "_law_kind"] spLWord := by
  refine F.ok scLWord (fun vs H Q E h => ?_) (fun cdv A outer s H vs Q E hr h => ?_)
  · obtain ⟨d, k, pl, rfl, _⟩ := h
    rfl
  · obtain ⟨d, k, pl, rfl, hd, ho, q⟩ := h
    have hu := hu_of hr
    refine ⟨_, (pss_one (ps_ret (pe_dget2 hu (pv 0) (pv 1) (pe_dget hu (pv 0) pe_str (fun _ _ => rfl)) ⟨rfl, rfl, rfl, rfl⟩))), ?_⟩
    have g2 := dg_mem hd ho
    unfold rest at g2
    rw [rest_of ho] at g2
    refine ⟨_, rfl, d, rfl, .inl ⟨_, .inl hd⟩, _, rfl, _, rfl, d, _, rfl, g2, _, DGet.k (k := Sum.inr k) hd, ?_⟩
    rw [val_gw]
    exact q
theorem scLevel : FnScope ["_law_word_here"] ["_law_word_here"] (defScope sLevel) := ⟨rfl, rfl, rfl, by decide +kernel, rfl, by decide +kernel, by decide +kernel⟩
theorem ok_level {f : Addr} {fd : FuncData} (F : Fun K "_law_level" "_law_level" sLevel f fd) : FnOk P w K mg base CX0 1 f fd ["_law_word_here"] spLevel := by
  refine F.ok scLevel (fun vs H Q E h => ?_) (fun cdv A outer s H vs Q E hr h => ?_)
  · obtain ⟨v, rfl, _⟩ := h
    rfl
  · obtain ⟨v, rfl, hv, q⟩ := h
    refine ⟨_, (pss_one (ps_ret (pe_bm PySem.F.plainAttrs_list PySem.F.slot_list_index PySem.F.type_list_index mt_index (pe_lst (pa_cons pe_str (pa_cons pe_str (pa_cons pe_str pa_nil)))) (pa_cons (pv 0) pa_nil)))), ?_⟩
    refine ⟨by show 3 ≤ sizeLine; rw [sizeLine_eq]; decide, fun l nl => ⟨.inl ⟨rfl, _, SqL.of upd_same⟩, _, rfl, l, W3.map V.str, .str v, rk v, .str v, rfl, rfl, SqL.of upd_same, rfl, w3_flat, w3_idx hv, by simp [eqV], w3_first hv, q _ (same_upd nl)⟩⟩
theorem scJoined : FnScope nJoined ["_law_first", "_law_second", "_law_is_greater"] (defScope sJoined) := ⟨rfl, rfl, rfl, by decide +kernel, rfl, by decide +kernel, by decide +kernel⟩
theorem ok_joined {f fW fV : Addr} {fd fdW fdV : FuncData} (F : Fun K "_law_joined" "_law_joined" sJoined f fd) (T : Bare mg) (GW : FnOk P w K mg base CX0 1 fW fdW ["_law_words_here", "_law_kind"] spLWord) (bW : Binds K fdW ["_law_words_here", "_law_kind"] []) (kW : PySem.W.keepIn K (.ref fW) = true) (mW : mg "_law_word" = some (.ref fW))
    (GV : FnOk P w K mg base CX0 1 fV fdV ["_law_word_here"] spLevel) (bV : Binds K fdV ["_law_word_here"] []) (kV' : PySem.W.keepIn K (.ref fV) = true) (mV : mg "_law_level" = some (.ref fV)) : FnOk P w K mg base CX0 2 f fd ["_law_first", "_law_second", "_law_is_greater"] spJoined := by
  refine F.ok scJoined (fun vs H Q E h => ?_) (fun cdv A outer s H vs Q E hr h => ?_)
  · obtain ⟨d, e, b, p1, p2, rfl, _⟩ := h
    rfl
  · obtain ⟨d, e, b, p1, p2, rfl, hd, he, o1, o2, v1, v2, l1, l2, k⟩ := h
    have hu := hu_of hr
    have hsz : (1000 : Nat) ≤ sizeLine := by rw [sizeLine_eq]; decide
    refine ⟨_, (pss_cons (ps_set (i := 3) scJoined.nd rfl (Or.inl rfl) pe_dnewK)
      (pss_cons (ps_for PassesOwn.never rfl (pi_list (pe_op op_cat (pe_callTy (call_listD rfl) (by rfl) T.list (by decide +kernel) (pa_cons (pv 0) pa_nil)) (pe_lock (pe_lc (own := [("_law_kind", 4)]) (g := gName 4) rfl scJoined.nd (pi_keys (pv 1)) (blkOk_by (own := [("_law_kind", 4)]) (N := nJoined) (sc := defScope sJoined) (by decide +kernel)) (fun _ _ _ _ _ => pg_name (i := 4) scJoined.nd rfl (Or.inl rfl)) (fun _ _ _ _ _ => (pts_one (pt_cmp (pc_dnotin hu (pv 4) (pv 0))))) (fun _ _ _ _ _ => (pv 4)))))) (pg_name (i := 4) scJoined.nd rfl (Or.inl rfl))
        (pss_cons (ps_par (i := 5) (j := 6) rfl scJoined.nd rfl rfl (by decide) rfl rfl (pa_cons (pe_call GV hr (by rfl) mV kV' bV .nil pass0 (pa_cons (pe_call GW hr (by rfl) mW kW bW .nil pass0 (pa_cons (pv 0) (pa_cons (pv 4) pa_nil))) pa_nil)) (pa_cons (pe_call GV hr (by rfl) mV kV' bV .nil pass0 (pa_cons (pe_call GW hr (by rfl) mW kW bW .nil pass0 (pa_cons (pv 1) (pa_cons (pv 4) pa_nil))) pa_nil)) pa_nil)) (by rfl))
        (pss_cons (ps_if (pt_cmpR op_gt (pv 5) (pv 6) (nomark _)) (pss_one (ps_par (i := 5) (j := 6) rfl scJoined.nd rfl rfl (by decide) rfl rfl (pa_cons (pv 6) (pa_cons (pv 5) pa_nil)) (by rfl))) pss_nil)
        (pss_one (ps_dput hu (pv 3) (pv 4) (pe_ix ix_list (pe_lst (pa_cons pe_str (pa_cons pe_str (pa_cons pe_str pa_nil)))) (pe_ifExp (pt_val (pv 2)) (pv 6) (pv 5)) (fun _ _ => rfl)) rfl)))))
      (pss_one (ps_ret (pv 3))))), ?_⟩
    refine fun D nD => ?_
    have s0 : Same H (upd H D (.dK [])) := same_upd nD
    have hD0 : (upd H D (.dK [])) D = some (.dK (wd [])) := upd_same
    have d0 := s0 _ _ hd
    have e0 := s0 _ _ he
    refine ⟨_, rfl, d, _, rfl, .inl d0, fun q1 nq1 => ?_⟩
    have s1 := s0.trans (same_upd (o := .lst ((wd p1).map fun kv => kV kv.1)) nq1)
    have hD1 : (upd (upd H D (.dK [])) q1 (.lst ((wd p1).map fun kv => kV kv.1))) D = some (.dK (wd [])) := same_upd nq1 _ _ hD0
    have hq1 : (upd (upd H D (.dK [])) q1 (.lst ((wd p1).map fun kv => kV kv.1))) q1 = some (.lst ((p1.map (·.1)).map V.str)) := by rw [upd_same, wd_keys]
    generalize upd (upd H D (.dK [])) q1 (.lst ((wd p1).map fun kv => kV kv.1)) = G1 at s1 hD1 hq1 ⊢
    clear hD0 s0 d0 e0 nq1
    have d1 := s1 _ _ hd
    have e1 := s1 _ _ he
    refine ⟨e, _, e1, trivial, fun od => ⟨_, rfl, e, od, rfl, .inl ⟨wd p2, upd_same, fun q2 nq2 => ?_⟩⟩⟩
    have heq : e ≠ q2 := ne_of_none upd_same nq2
    have nq2' : G1 q2 = none := by rw [upd_ne heq.symm] at nq2; exact nq2
    refine lc_ex (xs := (wd p2).map fun kv => kV kv.1) wk_keys (fNew (p1.map (·.1))) (fun ys => by rw [upd_ne heq, upd_same]) (by rw [List.length_map, wd_len]; omega) (fun i x ys R Nn hx hR hN => ⟨rfl, ?_⟩) ?_
    · rw [wd_keys] at hx
      obtain ⟨kk, hk, rfl⟩ := str_at' hx
      -- the first one may be the locked one
      have hg : ∃ o, DGet (upd (upd G1 e (.frz od (.dK (wd p2)))) q2 (.lst ys)) d (.str kk) o ∧ o.isSome = decide (kk ∈ p1.map (·.1)) := by
        by_cases hde : d = e
        · have hp : wd p1 = wd p2 := by rw [hde, e1] at d1; injection (Option.some.inj d1) with z; exact z.symm
          refine ⟨_, (.inl ⟨wd p1, Sum.inr kk, .inr ⟨od, by rw [hde, upd_ne heq, upd_same, hp]⟩, rfl, rfl⟩ : DGet _ d (.str kk) (valV (wd p1) (Sum.inr kk : Key))), ?_⟩
          exact val_some
        · refine ⟨_, DGet.k (k := Sum.inr kk) (kvs := wd p1) (by rw [upd_ne (ne_of_none d1 nq2'), upd_ne hde]; exact d1), ?_⟩
          exact val_some
      obtain ⟨o, hg, ho⟩ := hg
      refine ⟨_, rfl, _, rfl, d, o, rfl, hg, _, rfl, ?_⟩
      rw [ho]
      by_cases hm : kk ∈ p1.map (·.1)
      · rw [decide_eq_true hm]
        exact hN (by show (if kk ∈ _ then none else _) = _; rw [if_pos hm])
      · rw [decide_eq_false hm]
        exact ⟨_, rfl, hR _ (by show (if kk ∈ _ then none else _) = _; rw [if_neg hm])⟩
    · refine ⟨by rw [upd_ne heq, upd_same], ?_⟩
      rw [wd_keys, fm_new, unlock_eq e1 nq2']
      have s2 := s1.trans (same_upd (o := .lst ((newOf (p1.map (·.1)) (p2.map (·.1))).map V.str)) nq2')
      have hq1' := same_upd (o := .lst ((newOf (p1.map (·.1)) (p2.map (·.1))).map V.str)) nq2' _ _ hq1
      have hD2 := same_upd (o := .lst ((newOf (p1.map (·.1)) (p2.map (·.1))).map V.str)) nq2' _ _ hD1
      have hq2 : (upd G1 q2 (.lst ((newOf (p1.map (·.1)) (p2.map (·.1))).map V.str))) q2 = some (.lst ((newOf (p1.map (·.1)) (p2.map (·.1))).map V.str)) := upd_same
      generalize upd G1 q2 (.lst ((newOf (p1.map (·.1)) (p2.map (·.1))).map V.str)) = G2 at s2 hq1' hD2 hq2 ⊢
      have hfl := newOf_len (p1.map (·.1)) (p2.map (·.1))
      rw [List.length_map] at hfl
      refine ⟨q1, q2, _, _, rfl, rfl, hq1', hq2, by rw [List.length_map, List.length_map, List.length_map]; omega, fun N nN => ?_⟩
      have s3 := s2.trans (same_upd (o := .lst ((p1.map (·.1)).map V.str ++ ((newOf (p1.map (·.1)) (p2.map (·.1))).map V.str))) nN)
      have hD3 := same_upd (o := .lst ((p1.map (·.1)).map V.str ++ ((newOf (p1.map (·.1)) (p2.map (·.1))).map V.str))) nN _ _ hD2
      have hN : (upd G2 N (.lst ((p1.map (·.1)).map V.str ++ ((newOf (p1.map (·.1)) (p2.map (·.1))).map V.str)))) N = some (.lst ((p1.map (·.1) ++ newOf (p1.map (·.1)) (p2.map (·.1))).map V.str)) := by rw [upd_same, List.map_append]
      generalize upd G2 N (.lst ((p1.map (·.1)).map V.str ++ ((newOf (p1.map (·.1)) (p2.map (·.1))).map V.str))) = G3 at s3 hD3 hN ⊢
      have hjs : ∀ k, k ∈ (p1.map (·.1) ++ newOf (p1.map (·.1)) (p2.map (·.1))) ↔ k ∈ p1.map (·.1) ∨ k ∈ p2.map (·.1) := fun kk => newOf_mem kk
      have hjl : (p1.map (·.1) ++ newOf (p1.map (·.1)) (p2.map (·.1))).length ≤ 40 := by rw [List.length_append, List.length_map]; omega
      have k3 := fun (H' : Hp) (z : Same H H') (hh : H' D = _) => k D H' _ z nD hjs hh
      generalize (p1.map (·.1) ++ newOf (p1.map (·.1)) (p2.map (·.1))) = js at hN hjl k3
      have hND : N ≠ D := ne_of hN hD3 (fun z => by cases z)
      refine ⟨N, rfl, ⟨_, SqL.of hN⟩, for_list (K := K) (a := N) (xs := js.map V.str) (fun i σ G => ∃ v4 v5 v6 : Option V, σ = [some (.ref d), some (.ref e), some (.bl b), some (.ref D), v4, v5, v6] ∧ G D = some (.dK (wd (putAll (fun k => pickW b (pw p1 k) (pw p2 k)) (js.take i)))) ∧ (∀ c o, c ≠ D → G3 c = some o → G c = some o))
        ⟨none, none, none, rfl, hD3, fun _ _ _ z => z⟩ (fun i σ G _ ⟨v4, v5, v6, _, _, kp⟩ => SqL.of (kp _ _ hND hN)) ?_ ?_⟩
      · rintro i x σ G hx ⟨v4, v5, v6, rfl, hGD, kp⟩
        obtain ⟨kk, hk, rfl⟩ := str_at' hx
        have ndD : d ≠ D := ne_of_none hd nD
        have neD : e ≠ D := ne_of_none he nD
        have dG := kp _ _ ndD (s3 _ _ hd)
        have eG := kp _ _ neD (s3 _ _ he)
        refine ⟨_, rfl, _, rfl, d, kk, p1, rfl, dG, o1, _, rfl, pw_w3 v1 kk, fun G4 s4 => ?_⟩
        refine ⟨_, rfl, _, rfl, e, kk, p2, rfl, s4 _ _ eG, o2, _, rfl, pw_w3 v2 kk, fun G5 s5 => ⟨_, _, rfl, ?_⟩⟩
        have x1 := pw_w3 v1 kk
        have x2 := pw_w3 v2 kk
        have s45 := s4.trans s5
        have G5D := s45 _ _ hGD
        have hll := putAll_len (f := fun k => pickW b (pw p1 k) (pw p2 k)) (js.take i)
        rw [List.length_take] at hll
        have st : ∀ (l : Addr) (z : S), G5 l = none → z = pickW b (pw p1 kk) (pw p2 kk) → DPut (upd G5 l (.lst (W3.map V.str))) D (.str kk) (.str z) (upd (upd G5 l (.lst (W3.map V.str))) D (.dK (wd (putAll (fun k => pickW b (pw p1 k) (pw p2 k)) (js.take (i + 1)))))) ∧ (∀ c o, c ≠ D → G3 c = some o → (upd (upd G5 l (.lst (W3.map V.str))) D (.dK (wd (putAll (fun k => pickW b (pw p1 k) (pw p2 k)) (js.take (i + 1)))))) c = some o) := fun l z nl ez => by
          refine ⟨?_, fun c o hc ec => ?_⟩
          · have h1 := DPut.k (k := Sum.inr kk) (v := .str z) (same_upd (o := .lst (W3.map V.str)) nl _ _ G5D) (by rw [wd_len]; omega)
            rw [put_wd, ez, ← putAll_snoc, ← take_snoc hk] at h1
            rw [ez]
            exact h1
          · have h2 := s45 _ _ (kp _ _ hc ec)
            rw [upd_ne hc, upd_ne (ne_of_none h2 nl)]
            exact h2
        refine ⟨_, rfl, _, rfl, _, _, rfl, rfl, _, rfl, ?_⟩
        refine ite2 (fun hgt => ?_) (fun hle => ?_)
        · have hgt' : rk (pw p2 kk) < rk (pw p1 kk) := by have := of_decide_eq_true hgt; omega
          have em : mxW (pw p1 kk) (pw p2 kk) = pw p1 kk := by unfold mxW; rw [if_neg (by omega)]
          have en : mnW (pw p1 kk) (pw p2 kk) = pw p2 kk := by unfold mnW; rw [if_neg (by omega)]
          refine ⟨_, rfl, _, rfl, _, _, rfl, by show 3 ≤ sizeLine; omega, fun l nl => ?_⟩
          cases b with
          | true =>
            have h1 := st l (pw p1 kk) nl em.symm
            exact ⟨_, rfl, true, rfl, _, rfl, l, _, _, _, rfl, rfl, SqL.of upd_same, atI_nat (w3_idx x1), _, rfl, _, rfl, D, _, rfl, h1.1, _, _, _, rfl, upd_same, h1.2⟩
          | false =>
            have h1 := st l (pw p2 kk) nl en.symm
            exact ⟨_, rfl, false, rfl, _, rfl, l, _, _, _, rfl, rfl, SqL.of upd_same, atI_nat (w3_idx x2), _, rfl, _, rfl, D, _, rfl, h1.1, _, _, _, rfl, upd_same, h1.2⟩
        · have hle' : rk (pw p1 kk) ≤ rk (pw p2 kk) := by have := of_decide_eq_false (Bool.eq_false_iff.mpr hle); omega
          have em : mxW (pw p1 kk) (pw p2 kk) = pw p2 kk := by
            unfold mxW
            by_cases z : rk (pw p1 kk) < rk (pw p2 kk)
            · rw [if_pos z]
            · rw [if_neg z]; exact rk_inj x1 x2 (by omega)
          have en : mnW (pw p1 kk) (pw p2 kk) = pw p1 kk := by
            unfold mnW
            by_cases z : rk (pw p1 kk) < rk (pw p2 kk)
            · rw [if_pos z]
            · rw [if_neg z]; exact rk_inj x2 x1 (by omega)
          refine ⟨by show 3 ≤ sizeLine; omega, fun l nl => ?_⟩
          cases b with
          | true =>
            have h1 := st l (pw p2 kk) nl em.symm
            exact ⟨_, rfl, true, rfl, _, rfl, l, _, _, _, rfl, rfl, SqL.of upd_same, atI_nat (w3_idx x2), _, rfl, _, rfl, D, _, rfl, h1.1, _, _, _, rfl, upd_same, h1.2⟩
          | false =>
            have h1 := st l (pw p1 kk) nl en.symm
            exact ⟨_, rfl, false, rfl, _, rfl, l, _, _, _, rfl, rfl, SqL.of upd_same, atI_nat (w3_idx x1), _, rfl, _, rfl, D, _, rfl, h1.1, _, _, _, rfl, upd_same, h1.2⟩
      · rintro σ G ⟨v4, v5, v6, rfl, hGD, kp⟩
        rw [List.length_map, List.take_length] at hGD
        exact ⟨_, rfl, k3 G (fun c o ec => kp _ _ (ne_of_none ec nD) (s3 _ _ ec)) hGD⟩
theorem scWithin : FnScope nWithin ["_law_first", "_law_second"] (defScope sWithin) := ⟨rfl, rfl, rfl, by decide +kernel, rfl, by decide +kernel, by decide +kernel⟩
theorem ok_within {f fW fV : Addr} {fd fdW fdV : FuncData} (F : Fun K "_law_is_within" "_law_is_within" sWithin f fd) (T : Bare mg) (GW : FnOk P w K mg base CX0 1 fW fdW ["_law_words_here", "_law_kind"] spLWord) (bW : Binds K fdW ["_law_words_here", "_law_kind"] []) (kW : PySem.W.keepIn K (.ref fW) = true) (mW : mg "_law_word" = some (.ref fW))
    (GV : FnOk P w K mg base CX0 1 fV fdV ["_law_word_here"] spLevel) (bV : Binds K fdV ["_law_word_here"] []) (kV' : PySem.W.keepIn K (.ref fV) = true) (mV : mg "_law_level" = some (.ref fV)) : FnOk P w K mg base CX0 2 f fd ["_law_first", "_law_second"] spWithin := by
  refine F.ok scWithin (fun vs H Q E h => ?_) (fun cdv A outer s H vs Q E hr h => ?_)
  · obtain ⟨d, e, p1, p2, rfl, _⟩ := h
    rfl
  · obtain ⟨d, e, p1, p2, rfl, hd, he, o1, o2, v1, v2, l1, l2, k⟩ := h
    have hsz : (1000 : Nat) ≤ sizeLine := by rw [sizeLine_eq]; decide
    refine ⟨_, (pss_cons (ps_for PassesOwn.never rfl (pi_list (pe_op op_cat (pe_callTy (call_listD rfl) (by rfl) T.list (by decide +kernel) (pa_cons (pv 0) pa_nil)) (pe_callTy (call_listD rfl) (by rfl) T.list (by decide +kernel) (pa_cons (pv 1) pa_nil)))) (pg_name (i := 2) scWithin.nd rfl (Or.inl rfl))
        (pss_one (ps_if (pt_cmpR op_gt (pe_call GV hr (by rfl) mV kV' bV .nil pass0 (pa_cons (pe_call GW hr (by rfl) mW kW bW .nil pass0 (pa_cons (pv 0) (pa_cons (pv 2) pa_nil))) pa_nil)) (pe_call GV hr (by rfl) mV kV' bV .nil pass0 (pa_cons (pe_call GW hr (by rfl) mW kW bW .nil pass0 (pa_cons (pv 1) (pa_cons (pv 2) pa_nil))) pa_nil)) (nomark _)) (pss_one (ps_ret pe_bl)) pss_nil)))
      (pss_one (ps_ret pe_bl))), ?_⟩
    refine ⟨_, rfl, d, _, rfl, .inl hd, fun q1 n1 => ?_⟩
    have s1 := same_upd (o := .lst ((wd p1).map fun kv => kV kv.1)) n1
    have h1 := upd_same (H := H) (a := q1) (o := .lst ((wd p1).map fun kv => kV kv.1))
    generalize upd H q1 (.lst ((wd p1).map fun kv => kV kv.1)) = G1 at s1 h1 ⊢
    refine ⟨_, rfl, e, _, rfl, .inl (s1 _ _ he), fun q2 n2 => ?_⟩
    have s2 := s1.trans (same_upd (o := .lst ((wd p2).map fun kv => kV kv.1)) n2)
    have h1' := same_upd (o := .lst ((wd p2).map fun kv => kV kv.1)) n2 _ _ h1
    have h2 := upd_same (H := G1) (a := q2) (o := .lst ((wd p2).map fun kv => kV kv.1))
    generalize upd G1 q2 (.lst ((wd p2).map fun kv => kV kv.1)) = G2 at s2 h1' h2 ⊢
    rw [wd_keys] at h1' h2
    refine ⟨q1, q2, _, _, rfl, rfl, h1', h2, by rw [List.length_map, List.length_map, List.length_map, List.length_map]; omega, fun N nN => ?_⟩
    have s3 := s2.trans (same_upd (o := .lst ((p1.map (·.1)).map V.str ++ (p2.map (·.1)).map V.str)) nN)
    have hN : (upd G2 N (.lst ((p1.map (·.1)).map V.str ++ (p2.map (·.1)).map V.str))) N = some (.lst ((p1.map (·.1) ++ p2.map (·.1)).map V.str)) := by rw [upd_same, List.map_append]
    generalize upd G2 N (.lst ((p1.map (·.1)).map V.str ++ (p2.map (·.1)).map V.str)) = G3 at s3 hN ⊢
    have hall : (∀ kk ∈ p1.map (·.1) ++ p2.map (·.1), rk (pw p1 kk) ≤ rk (pw p2 kk)) → leG (pw p1) (pw p2) = true := fun hz => by
      rw [leG_iff]
      intro kk
      by_cases m : kk ∈ p1.map (·.1) ++ p2.map (·.1)
      · exact hz kk m
      · rw [List.mem_append, not_or] at m
        rw [pw_not o1 m.1, pw_not o2 m.2]
        exact hz oth (List.mem_append_left _ o1)
    generalize p1.map (·.1) ++ p2.map (·.1) = js at hN hall
    refine ⟨N, rfl, ⟨_, SqL.of hN⟩, for_list (K := K) (a := N) (xs := js.map V.str) (fun i σ G => ∃ v2 : Option V, σ = [some (.ref d), some (.ref e), v2] ∧ Same G3 G ∧ ∀ kk ∈ js.take i, rk (pw p1 kk) ≤ rk (pw p2 kk)) ⟨none, rfl, Same.refl _, fun kk hkk => by cases hkk⟩ (fun i σ G _ ⟨v2, _, sG, _⟩ => SqL.of (sG _ _ hN)) ?_ ?_⟩
    · rintro i x σ G hx ⟨v2', rfl, sG, ih⟩
      obtain ⟨kk, hk, rfl⟩ := str_at' hx
      have dG := sG _ _ (s3 _ _ hd)
      have eG := sG _ _ (s3 _ _ he)
      refine ⟨_, rfl, _, rfl, d, kk, p1, rfl, dG, o1, _, rfl, pw_w3 v1 kk, fun G4 s4 => ?_⟩
      refine ⟨_, rfl, _, rfl, e, kk, p2, rfl, s4 _ _ eG, o2, _, rfl, pw_w3 v2 kk, fun G5 s5 => ⟨_, _, rfl, rfl, _, rfl, ?_⟩⟩
      have s45 := (sG.trans s4).trans s5
      refine ite2 (fun hgt => ?_) (fun hle => ?_)
      · have hgt' : rk (pw p2 kk) < rk (pw p1 kk) := by have := of_decide_eq_true hgt; omega
        have z := k G5 (s3.trans s45)
        rw [leG_no (k := kk) (by omega)] at z
        exact z
      · have hle' : rk (pw p1 kk) ≤ rk (pw p2 kk) := by have := of_decide_eq_false (Bool.eq_false_iff.mpr hle); omega
        refine ⟨_, rfl, s45, fun j hj => ?_⟩
        rw [take_snoc hk, List.mem_append, List.mem_singleton] at hj
        rcases hj with hj | rfl
        · exact ih j hj
        · exact hle'
    · rintro σ G ⟨v2', rfl, sG, ih⟩
      rw [List.length_map, List.take_length] at ih
      have z := k G (s3.trans sG)
      rw [hall ih] at z
      exact z
end
end M46

/-! Markings by what they say of each kind. -/
namespace M46
open PySem PySem.Spec PyProof.Rows L2 R0 K1 ClX StX

theorem nodup_le {α : Type} [BEq α] [LawfulBEq α] : ∀ {l m : List α}, l.Nodup → (∀ x ∈ l, x ∈ m) → l.length ≤ m.length
  | [], _, _, _ => Nat.zero_le _
  | a :: l, m, n, h => by
    rw [List.nodup_cons] at n
    have ha : a ∈ m := h a List.mem_cons_self
    have h2 : ∀ x ∈ l, x ∈ m.erase a := fun x hx => (List.mem_erase_of_ne (fun e => n.1 (by first | (rw [← e]; exact hx) | (rw [e]; exact hx)))).mpr (h x (List.mem_cons_of_mem _ hx))
    have z := nodup_le n.2 h2
    rw [List.length_erase_of_mem ha] at z
    have : 0 < m.length := List.length_pos_of_mem ha
    rw [List.length_cons]
    omega
/-- the kinds that are drawn -/
structure KS (ks : List S) : Prop where
  len : ks.length ≤ 5
  nm : ∀ k ∈ ks, nm k = true
  slf : slf ∉ ks
  oth : oth ∉ ks
/-- a plan over some kinds -/
structure PG (ks : List S) (pl : List (S × S)) : Prop where
  ks : ∀ k ∈ pl.map (·.1), k ∈ ks ∨ k = oth
  nd : (pl.map (·.1)).Nodup
  vs : ∀ v ∈ pl.map (·.2), v ∈ W3
  has : oth ∈ pl.map (·.1)
theorem PG.len {ks : List S} {pl : List (S × S)} (p : PG ks pl) (h : KS ks) : pl.length ≤ 6 := by
  have z := nodup_le (m := ks ++ [M46.oth]) p.nd fun k hk => by
    rw [List.mem_append, List.mem_singleton]
    exact p.ks k hk
  rw [List.length_map, List.length_append, List.length_singleton] at z
  have := h.len
  omega
theorem PG.wok {ks : List S} {pl : List (S × S)} (p : PG ks pl) (h : KS ks) : Wok pl := by
  refine ⟨fun k hk => ?_, p.vs, p.nd, by have := p.len h; omega⟩
  rcases p.ks k hk with z | z
  · exact h.nm k z
  · rw [z]; exact nm_oth
theorem PG.noSlf {ks : List S} {pl : List (S × S)} (p : PG ks pl) (h : KS ks) : M46.slf ∉ pl.map (·.1) := fun z => by
  rcases p.ks _ z with z | z
  · exact h.slf z
  · exact absurd z (show ¬ M46.slf = M46.oth by decide +kernel)
/-- a marking over some kinds, by what it says of each -/
def Mrk (C : Addr) (H : Hp) (a : Addr) (ks : List S) (g : S → S) : Prop := ∃ ws, MkAt C H a ws (g oth) ∧ Fine ws (g oth) ∧ (ws.map (·.1)).Nodup ∧ oth ∉ ws.map (·.1) ∧ (∀ k ∈ ws.map (·.1), k ∈ ks) ∧ ∀ k, gw ws (g oth) k = g k
theorem Mrk.same {C : Addr} {H H' : Hp} {a : Addr} {ks : List S} {g : S → S} (m : Mrk C H a ks g) (s : Same H H') : Mrk C H' a ks g := by
  obtain ⟨ws, h1, h⟩ := m
  exact ⟨ws, h1.same s, h⟩
theorem Mrk.w3 {C : Addr} {H : Hp} {a : Addr} {ks : List S} {g : S → S} (m : Mrk C H a ks g) (k : S) : g k ∈ W3 := by
  obtain ⟨ws, h1, h2, h3, h4, h5, h6⟩ := m
  rw [← h6 k]
  exact gw_w3 h2 k
theorem Mrk.ins {C : Addr} {H : Hp} {a : Addr} {ks : List S} {g : S → S} (m : Mrk C H a ks g) : ∃ dx d, H a = some (.ins C dx (fl d (g oth))) := by
  obtain ⟨ws, ⟨dx, d, h1, h2⟩, _⟩ := m
  exact ⟨dx, d, h1⟩
theorem canon_nd {W ws : List (S × S)} {r : S} (h : Canon W ws r) : (ws.map (·.1)).Nodup := by
  obtain ⟨rfl, ys, s1, n1, _, _, o1, rfl⟩ := h
  rw [kept_keys]
  exact n1.filter _
theorem canon_oth {W ws : List (S × S)} {r : S} (h : Canon W ws r) (ho : oth ∈ W.map (·.1)) : oth ∉ ws.map (·.1) := fun z => by
  obtain ⟨rfl, ys, s1, n1, _, _, o1, rfl⟩ := h
  rw [kept_keys] at z
  unfold keep at z
  have := (List.mem_filter.mp z).2
  simp only [decide_eq_true_eq] at this
  exact this (rest_of ho)
theorem mrk_of {C : Addr} {H : Hp} {a : Addr} {ks : List S} {W ws : List (S × S)} {r : S} {g : S → S} (cn : Canon W ws r) (m : MkAt C H a ws r) (h : KS ks) (hk : ∀ k ∈ W.map (·.1), k ∈ ks ∨ k = oth) (ho : oth ∈ W.map (·.1)) (hv : ∀ v ∈ W.map (·.2), v ∈ W3) (hg : ∀ k, pw W k = g k) : Mrk C H a ks g := by
  have er : r = g oth := by
    rw [← hg oth]
    unfold pw
    rw [rest_of ho]
    exact cn.r
  subst er
  have hkk : ∀ k ∈ ws.map (·.1), k ∈ ks := fun k hk' => by
    rcases hk k (canon_keys cn hk') with z | z
    · exact z
    · rw [z] at hk'; exact absurd hk' (canon_oth cn ho)
  have nd := canon_nd cn
  have hgw : ∀ k, gw ws (g oth) k = g k := fun k => by
    rw [canon_gw cn k, ← hg k]
    rfl
  refine ⟨ws, m, ⟨fun k hk' => h.nm k (hkk k hk'), fun v hv' => ?_, ?_, ?_⟩, nd, canon_oth cn ho, hkk, hgw⟩
  · obtain ⟨⟨k, v'⟩, hx, rfl⟩ := List.mem_map.mp hv'
    have e := gw_of_mem (r := g oth) nd hx
    rw [hgw k, ← hg k] at e
    show v' ∈ W3
    rw [← e]
    exact pw_w3 hv k
  · rw [← hg oth]
    exact pw_w3 hv oth
  · have := nodup_le nd hkk
    rw [List.length_map] at this
    have := h.len
    omega
theorem Mrk.len {C : Addr} {H : Hp} {a : Addr} {ks : List S} {g : S → S} {ws : List (S × S)} (h : KS ks) (nd : (ws.map (·.1)).Nodup) (hk : ∀ k ∈ ws.map (·.1), k ∈ ks) : ws.length ≤ 5 := by
  have := nodup_le nd hk
  rw [List.length_map] at this
  have := h.len
  omega
theorem pw_all {f : S → S} {js : List S} (ho : oth ∈ js) (hf : ∀ k, k ∉ js → f k = f oth) (k : S) : pw (putAll f js) k = f k := by
  have er : rest (putAll f js) = f oth := by
    unfold rest
    rw [putAll_gw, if_pos ho]
  unfold pw
  rw [putAll_gw, er]
  by_cases h : k ∈ js
  · rw [if_pos h]
  · rw [if_neg h, hf k h]
/-! ### what the rules ask -/
section
variable {K : PySem.W.Frag} {C CM CT : Addr} {H : Hp} {Q : VK} {E : XK} {ks : List S} {a b : Addr} {g1 g2 : S → S}
theorem leW_g {ws us : List (S × S)} {r q : S} (h1 : ∀ k, gw ws r k = g1 k) (h2 : ∀ k, gw us q k = g2 k) (o1 : ∀ k, k ∉ ws.map (·.1) → g1 k = g1 oth) (o2 : ∀ k, k ∉ us.map (·.1) → g2 k = g2 oth) : leW ws r us q = leG g1 g2 := by
  rw [Bool.eq_iff_iff, leG_iff]
  unfold leW
  rw [Bool.not_eq_true', List.any_eq_false]
  constructor
  · intro h k
    have hh : ∀ k ∈ ws.map (·.1) ++ (us.map (·.1) ++ [oth]), rk (g1 k) ≤ rk (g2 k) := fun k hk => by
      have := h k hk
      rw [h1, h2] at this
      simp only [decide_eq_true_eq] at this
      omega
    by_cases m : k ∈ ws.map (·.1) ++ (us.map (·.1) ++ [oth])
    · exact hh k m
    · rw [List.mem_append, List.mem_append, not_or, not_or] at m
      rw [o1 k m.1, o2 k m.2.1]
      exact hh oth (by simp)
  · intro h k hk
    rw [h1, h2]
    simp only [decide_eq_true_eq]
    have := h k
    omega
theorem Mrk.not_in {ws : List (S × S)} {g : S → S} (h6 : ∀ k, gw ws (g oth) k = g k) : ∀ k, k ∉ ws.map (·.1) → g k = g oth := fun k hk => by rw [← h6 k, gw_not hk]
theorem le_run (ma : Mrk C H a ks g1) (mb : Mrk C H b ks g2) (q : ∀ H', Same H H' → Q (.bl (leG g1 g2)) H') : spAtMost C [.ref a, .ref b] H Q E := by
  obtain ⟨ws, h1, h2, h3, h4, h5, h6⟩ := ma
  obtain ⟨us, i1, i2, i3, i4, i5, i6⟩ := mb
  refine ⟨a, b, ws, _, us, _, rfl, h1, i1, h2, i2, fun H' s => ?_⟩
  rw [leW_g h6 i6 (Mrk.not_in h6) (Mrk.not_in i6)]
  exact q H' s
noncomputable def eqG (f g : S → S) : Bool := leG f g && leG g f
theorem leG_refl (f : S → S) : leG f f = true := leG_iff.mpr fun _ => Nat.le_refl _
theorem eqG_refl (f : S → S) : eqG f f = true := by unfold eqG; rw [leG_refl]; rfl
theorem eq_run {F : Bool → Bool} (ins : IsF K C CM) (nf : PySem.W.notFirst K C (.ref C) = true) (cl : Cls K C) (ma : Mrk C H a ks g1) (mb : Mrk C H b ks g2) (q : ∀ H', Same H H' → Q (.bl (F (eqG g1 g2))) H') : rEqO K C (spEq K C CM) E F (.ref a) (.ref b) H Q := by
  obtain ⟨dx, d, ha⟩ := ma.ins
  obtain ⟨dy, e, hb⟩ := mb.ins
  obtain ⟨ws, h1, h2, h3, h4, h5, h6⟩ := ma
  obtain ⟨us, i1, i2, i3, i4, i5, i6⟩ := mb
  refine ⟨a, dx, _, .ref C, rfl, ha, .base (.ins hb cl ins.ha ins.hn ins.htk ins.hm), nf, a, ws, _, _, rfl, h1, h2, .inl ⟨b, us, _, rfl, i1, i2, fun H' s => ⟨_, rfl, ?_⟩⟩⟩
  unfold eqW
  rw [leW_g h6 i6 (Mrk.not_in h6) (Mrk.not_in i6), leW_g i6 h6 (Mrk.not_in i6) (Mrk.not_in h6)]
  exact q H' s
theorem join_run {pick : S → S → S} (hp : ∀ {x y : S}, x ∈ W3 → y ∈ W3 → pick x y ∈ W3) (h : KS ks) (ma : Mrk CM H a ks g1) (mb : Mrk CM H b ks g2) (q : ∀ H' c, Same H H' → H c = none → Mrk CM H' c ks (fun k => pick (g1 k) (g2 k)) → Q (.ref c) H') : rBinO CM (spJoin pick CM) E (.ref a) (.ref b) H Q := by
  have w1 := ma.w3
  have w2 := mb.w3
  obtain ⟨dx, d, ha⟩ := ma.ins
  obtain ⟨dy, e, hb⟩ := mb.ins
  obtain ⟨ws, h1, h2, h3, h4, h5, h6⟩ := ma
  obtain ⟨us, i1, i2, i3, i4, i5, i6⟩ := mb
  have l1 := Mrk.len (C := CM) (H := H) (a := a) (g := g1) h h3 h5
  have l2 := Mrk.len (C := CM) (H := H) (a := a) (g := g1) h i3 i5
  refine ⟨a, b, dx, _, dy, _, rfl, rfl, ha, hb, a, b, ws, _, us, _, rfl, h1, i1, h2, i2, by omega, by omega, fun z => h.slf (h5 _ z), fun z => h.slf (i5 _ z), fun H' c vs' r' s nc m cn => q H' c s nc ?_⟩
  have ef : (fun k => pick (gw ws (g1 oth) k) (gw us (g2 oth) k)) = fun k => pick (g1 k) (g2 k) := funext fun k => by rw [h6, i6]
  rw [ef] at cn
  have ho : oth ∈ keysB ws us := by unfold keysB; simp
  refine mrk_of cn m h (fun k hk => ?_) ((putAll_keys _).mpr ho) (putAll_vs (p := fun v => v ∈ W3) (fun k => hp (w1 k) (w2 k)) _) fun k => pw_all ho (fun k hk => ?_) k
  · rw [putAll_keys] at hk
    unfold keysB at hk
    rw [List.mem_append, List.mem_append, List.mem_singleton] at hk
    rcases hk with z | z | z
    · exact .inl (h5 k z)
    · exact .inl (i5 k z)
    · exact .inr z
  · unfold keysB at hk
    rw [List.mem_append, List.mem_append, not_or, not_or] at hk
    show pick (g1 k) (g2 k) = pick (g1 oth) (g2 oth)
    rw [Mrk.not_in h6 k hk.1, Mrk.not_in i6 k hk.2.1]
theorem of_run {d : Addr} {pl : List (S × S)} {g : S → S} (h : KS ks) (p : PG ks pl) (hd : H d = some (.dK (wd pl))) (hg : ∀ k, pw pl k = g k) (q : ∀ H' b, Same H H' → H b = none → Mrk CM H' b ks g → Q (.ref b) H') : spOf CM CT [.ref CM, .ref d] H Q E := by
  refine ⟨d, pl, rfl, hd, p.wok h, by have := p.len h; omega, fun H' b us r s nb m cn => q H' b s nb ?_⟩
  unfold clsOf at m
  rw [if_neg (p.noSlf h)] at m
  exact mrk_of cn m h p.ks p.has p.vs hg
theorem joined_run {p1 p2 : List (S × S)} {d e : Addr} {fl : Bool} (h : KS ks) (h1 : PG ks p1) (h2 : PG ks p2) (hd : H d = some (.dK (wd p1))) (he : H e = some (.dK (wd p2)))
    (q : ∀ D H' pl, Same H H' → H D = none → H' D = some (.dK (wd pl)) → PG ks pl → (∀ k, pw pl k = pickW fl (pw p1 k) (pw p2 k)) → Q (.ref D) H') : spJoined [.ref d, .ref e, .bl fl] H Q E := by
  have l1 := h1.len h
  have l2 := h2.len h
  refine ⟨d, e, fl, p1, p2, rfl, hd, he, h1.has, h2.has, h1.vs, h2.vs, by omega, by omega, fun D H' js s nD hjs hD => q D H' _ s nD hD ⟨fun k hk => ?_, putAll_nd _, putAll_vs (p := fun v => v ∈ W3) (fun k => pickW_w3 (pw_w3 h1.vs k) (pw_w3 h2.vs k)) _, (putAll_keys _).mpr ((hjs _).mpr (.inl h1.has))⟩ fun k => pw_all ((hjs _).mpr (.inl h1.has)) (fun k hk => ?_) k⟩
  · rw [putAll_keys, hjs] at hk
    exact hk.elim (h1.ks k) (h2.ks k)
  · rw [hjs, not_or] at hk
    show pickW fl (pw p1 k) (pw p2 k) = pickW fl (pw p1 oth) (pw p2 oth)
    rw [pw_not h1.has hk.1, pw_not h2.has hk.2]
theorem within_run {p1 p2 : List (S × S)} {d e : Addr} (h : KS ks) (h1 : PG ks p1) (h2 : PG ks p2) (hd : H d = some (.dK (wd p1))) (he : H e = some (.dK (wd p2))) (q : ∀ H', Same H H' → Q (.bl (leG (pw p1) (pw p2))) H') : spWithin [.ref d, .ref e] H Q E := by
  have l1 := h1.len h
  have l2 := h2.len h
  exact ⟨d, e, p1, p2, rfl, hd, he, h1.has, h2.has, h1.vs, h2.vs, by omega, by omega, q⟩
end
/-! ### the promises by what markings say -/
def spOfG (CM : Addr) : Sp := fun vs H Q _ => ∃ (d : Addr) (pl : List (S × S)) (ks : List S), vs = [.ref CM, .ref d] ∧ KS ks ∧ PG ks pl ∧ H d = some (.dK (wd pl)) ∧ ∀ H' b, Same H H' → H b = none → Mrk CM H' b ks (pw pl) → Q (.ref b) H'
theorem spOfG_imp {CM CT : Addr} (vs : List V) (H : Hp) (Q : VK) (E : XK) (h : spOfG CM vs H Q E) : spOf CM CT vs H Q E := by
  obtain ⟨d, pl, ks, rfl, h1, h2, h3, q⟩ := h
  exact of_run h1 h2 h3 (fun _ => rfl) q
def spJoinedG : Sp := fun vs H Q _ => ∃ (d e : Addr) (fl : Bool) (p1 p2 : List (S × S)) (ks : List S), vs = [.ref d, .ref e, .bl fl] ∧ KS ks ∧ PG ks p1 ∧ PG ks p2 ∧ H d = some (.dK (wd p1)) ∧ H e = some (.dK (wd p2)) ∧ ∀ D H' pl, Same H H' → H D = none → H' D = some (.dK (wd pl)) → PG ks pl → pw pl = (fun k => pickW fl (pw p1 k) (pw p2 k)) → Q (.ref D) H'
theorem spJoinedG_imp (vs : List V) (H : Hp) (Q : VK) (E : XK) (h : spJoinedG vs H Q E) : spJoined vs H Q E := by
  obtain ⟨d, e, fl, p1, p2, ks, rfl, h1, h2, h3, h4, h5, q⟩ := h
  exact joined_run h1 h2 h3 h4 h5 fun D H' pl s n hD g e => q D H' pl s n hD g (funext e)
def spWithinG : Sp := fun vs H Q _ => ∃ (d e : Addr) (p1 p2 : List (S × S)) (ks : List S), vs = [.ref d, .ref e] ∧ KS ks ∧ PG ks p1 ∧ PG ks p2 ∧ H d = some (.dK (wd p1)) ∧ H e = some (.dK (wd p2)) ∧ ∀ H', Same H H' → Q (.bl (leG (pw p1) (pw p2))) H'
theorem spWithinG_imp (vs : List V) (H : Hp) (Q : VK) (E : XK) (h : spWithinG vs H Q E) : spWithin vs H Q E := by
  obtain ⟨d, e, p1, p2, ks, rfl, h1, h2, h3, h4, h5, q⟩ := h
  exact within_run h1 h2 h3 h4 h5 q
def spAtMostG (C : Addr) : Sp := fun vs H Q _ => ∃ (a b : Addr) (ks js : List S) (g1 g2 : S → S), vs = [.ref a, .ref b] ∧ Mrk C H a ks g1 ∧ Mrk C H b js g2 ∧ ∀ H', Same H H' → Q (.bl (leG g1 g2)) H'
theorem spAtMostG_imp {C : Addr} (vs : List V) (H : Hp) (Q : VK) (E : XK) (h : spAtMostG C vs H Q E) : spAtMost C vs H Q E := by
  obtain ⟨a, b, ks, js, g1, g2, rfl, ⟨ws, h1, h2, h3, h4, h5, h6⟩, ⟨us, i1, i2, i3, i4, i5, i6⟩, q⟩ := h
  refine ⟨a, b, ws, _, us, _, rfl, h1, i1, h2, i2, fun H' s => ?_⟩
  rw [leW_g h6 i6 (Mrk.not_in h6) (Mrk.not_in i6)]
  exact q H' s
theorem opR_imp {X : Cx} {f : Value → Value → Sem Value} {r r' : R2} (o : OpR X f r) (h : ∀ x y H Q, r' x y H Q → r x y H Q) : OpR X f r' := fun pins s σ H x y v u Q I rx ry q => o pins s σ H x y v u Q I rx ry (h _ _ _ _ q)
def rJoinG (pick : S → S → S) (CM : Addr) : R2 := fun x y H Q => ∃ (a b : Addr) (ks : List S) (g1 g2 : S → S), x = .ref a ∧ y = .ref b ∧ KS ks ∧ Mrk CM H a ks g1 ∧ Mrk CM H b ks g2 ∧ ∀ H' c, Same H H' → H c = none → Mrk CM H' c ks (fun k => pick (g1 k) (g2 k)) → Q (.ref c) H'
def rEqG (C : Addr) (F : Bool → Bool) : R2 := fun x y H Q => ∃ (a b : Addr) (ks : List S) (g1 g2 : S → S), x = .ref a ∧ y = .ref b ∧ Mrk C H a ks g1 ∧ Mrk C H b ks g2 ∧ ∀ H', Same H H' → Q (.bl (F (eqG g1 g2))) H'
section
variable {X : Cx} {CX : CXT} {n : Nat} {CM f : Addr} {fd : FuncData} {ps : List PySem.Str} {E : XK}
theorem op_joinG {op : Operator} {pick : S → S → S} (m : OwnM X CX n CM (PySem.dunder op.info.2) f fd ps (spJoin pick CM) E) (hc : PySem.W.selfFirst X.K CM = true) (hr : Room n X.A) (hp : ∀ {x y : S}, x ∈ W3 → y ∈ W3 → pick x y ∈ W3) : OpR X (binaryOp op) (rJoinG pick CM) :=
  opR_imp (op_bin m hc hr) fun x y H Q h => by
    obtain ⟨a, b, ks, g1, g2, rfl, rfl, h1, h2, h3, q⟩ := h
    exact join_run hp h1 h2 h3 q
theorem op_eqG (m : OwnM X CX n CM "__eq__" f fd ps (spEq X.K CM CM) E) (ins : IsF X.K CM CM) (nf : PySem.W.notFirst X.K CM (.ref CM) = true) (cl : Cls X.K CM) (hr : Room n X.A) : OpR X (compareOp .Eq) (rEqG CM id) :=
  opR_imp (op_eqO m hr) fun x y H Q h => by
    obtain ⟨a, b, ks, g1, g2, rfl, rfl, h2, h3, q⟩ := h
    exact eq_run ins nf cl h2 h3 q
theorem op_neG (m : OwnM X CX n CM "__eq__" f fd ps (spEq X.K CM CM) E) (ins : IsF X.K CM CM) (nf : PySem.W.notFirst X.K CM (.ref CM) = true) (cl : Cls X.K CM) (hne : PySem.W.findIn X.K (.ref CM) "__ne__" = some (some (.builtin "object.__ne__"))) (hob : PySem.W.subIn X.K (.ref CM) (.type "object") = some true) (hr : Room (n + 1) X.A) : OpR X (compareOp .NotEq) (rEqG CM not) :=
  opR_imp (op_neO m hne hob hr) fun x y H Q h => by
    obtain ⟨a, b, ks, g1, g2, rfl, rfl, h2, h3, q⟩ := h
    exact eq_run ins nf cl h2 h3 q
end
/-! ### the laws of the words -/
theorem mx_rk (x y : S) : rk (mxW x y) = max (rk x) (rk y) := by unfold mxW; split <;> omega
theorem mn_rk (x y : S) : rk (mnW x y) = min (rk x) (rk y) := by unfold mnW; split <;> omega
theorem fun_rk {f g : S → S} (hf : ∀ k, f k ∈ W3) (hg : ∀ k, g k ∈ W3) (h : ∀ k, rk (f k) = rk (g k)) : f = g := funext fun k => rk_inj (hf k) (hg k) (h k)
section
variable {f g h : S → S} (hf : ∀ k, f k ∈ W3) (hg : ∀ k, g k ∈ W3) (hh : ∀ k, h k ∈ W3)
include hf hg
theorem mx_comm : (fun k => mxW (f k) (g k)) = fun k => mxW (g k) (f k) := fun_rk (fun k => mxW_w3 (hf k) (hg k)) (fun k => mxW_w3 (hg k) (hf k)) fun k => by rw [mx_rk, mx_rk]; omega
theorem mn_comm : (fun k => mnW (f k) (g k)) = fun k => mnW (g k) (f k) := fun_rk (fun k => mnW_w3 (hf k) (hg k)) (fun k => mnW_w3 (hg k) (hf k)) fun k => by rw [mn_rk, mn_rk]; omega
include hh
theorem mx_assoc : (fun k => mxW (mxW (f k) (g k)) (h k)) = fun k => mxW (f k) (mxW (g k) (h k)) := fun_rk (fun k => mxW_w3 (mxW_w3 (hf k) (hg k)) (hh k)) (fun k => mxW_w3 (hf k) (mxW_w3 (hg k) (hh k))) fun k => by rw [mx_rk, mx_rk, mx_rk, mx_rk]; omega
end
theorem le_mx {f h : S → S} : leG f (fun k => mxW (f k) (h k)) = true := leG_iff.mpr fun k => by rw [mx_rk]; omega
theorem mn_le {f h : S → S} : leG (fun k => mnW (f k) (h k)) f = true := leG_iff.mpr fun k => by rw [mn_rk]; omega
theorem mx_le {f g h : S → S} : leG (fun k => mxW (f k) (g k)) h = (leG f h && leG g h) := by
  rw [Bool.eq_iff_iff, Bool.and_eq_true, leG_iff, leG_iff, leG_iff]
  constructor
  · intro z
    exact ⟨fun k => by have := z k; rw [mx_rk] at this; omega, fun k => by have := z k; rw [mx_rk] at this; omega⟩
  · rintro ⟨z1, z2⟩ k
    rw [mx_rk]
    have := z1 k
    have := z2 k
    omega
theorem le_mn {f g h : S → S} : leG h (fun k => mnW (f k) (g k)) = (leG h f && leG h g) := by
  rw [Bool.eq_iff_iff, Bool.and_eq_true, leG_iff, leG_iff, leG_iff]
  constructor
  · intro z
    exact ⟨fun k => by have := z k; rw [mn_rk] at this; omega, fun k => by have := z k; rw [mn_rk] at this; omega⟩
  · rintro ⟨z1, z2⟩ k
    rw [mn_rk]
    have := z1 k
    have := z2 k
    omega
theorem le_eq {f g : S → S} : eqG (fun k => mxW (f k) (g k)) g = leG f g := by
  rw [Bool.eq_iff_iff]
  unfold eqG
  rw [Bool.and_eq_true, leG_iff, leG_iff, leG_iff]
  constructor
  · rintro ⟨z1, z2⟩ k
    have := z1 k
    rw [mx_rk] at this
    omega
  · intro z
    refine ⟨fun k => ?_, fun k => ?_⟩
    · rw [mx_rk]; have := z k; omega
    · rw [mx_rk]; omega
end M46

/-! _law_right (made by gJS.py). -/
namespace M46
open PySem PySem.Spec PyProof.Rows L2 R0 K1 ClX StX

abbrev sRight : Stmt := top 59
abbrev nR47 : List S := ["_law_dice_here", "_law_kinds", "_law_first", "_law_second", "_law_third", "_law_one", "_law_two", "_law_three", "_law_told", "_law_turn"]
def But (p : Addr) (H H' : Hp) : Prop := ∀ b o, b ≠ p → H b = some o → H' b = some o
theorem But.of {p : Addr} {H H' : Hp} (s : Same H H') : But p H H' := fun b o _ e => s b o e
theorem But.trans {p : Addr} {H H1 H2 : Hp} (a : But p H H1) (b : But p H1 H2) : But p H H2 := fun c o n e => b c o n (a c o n e)
theorem kinds_ks {ks : List S} (h : Kinds ks) : KS ks := by
  refine ⟨h.1, fun k hk => (kinds_at h hk).1, fun z => ?_, kinds_oth h⟩
  have := (kinds_at h z).2
  exact absurd this (by decide +kernel)
theorem plan_pg {ks : List S} {pl : List (S × S)} (p : Plan ks pl) : PG ks pl := ⟨p.keys, p.nd, p.vs, p.has⟩
theorem pick_t {f g : S → S} : (fun k => pickW true (f k) (g k)) = fun k => mxW (f k) (g k) := rfl
theorem pick_f {f g : S → S} : (fun k => pickW false (f k) (g k)) = fun k => mnW (f k) (g k) := rfl
def spRight : Sp := fun vs H Q _ => ∃ (p q : Addr) (x y z : Int) (ks : List S), vs = [.ref p, .ref q] ∧ Dice H p x y z ∧ p ≠ q ∧ H q = some (.lst (ks.map V.str)) ∧ Kinds ks ∧
  ∀ x' z' H', Dice H' p x' y z' → But p H H' → Q (.bl true) H'
theorem tru_sh : ∀ b : Bool, SeqAt.shaped (.list [.bool b, .bool true, .bool true, .bool true]) = true := by decide +kernel
theorem tru_eq : ∀ b : Bool, PyData.eqv (.list [.bool b, .bool true, .bool true, .bool true]) (.list [.bool b, .bool true, .bool true, .bool true]) = true := by decide +kernel
section
variable {P : Program} {w : World} {K : PySem.W.Frag} {mg : PySem.Str → Option Value} {base : Heap} {CM : Addr} {mc : Value}
theorem scR47 : FnScope nR47 ["_law_dice_here", "_law_kinds"] (defScope sRight) := ⟨rfl, rfl, rfl, by decide +kernel, rfl, by decide +kernel, by decide +kernel⟩
def tRight : TS := fun D σ H => ∃ (v0 v1 v5 v6 v7 v8 v9 : Option V) (d1 d2 d3 : Addr) (p1 p2 p3 : List (S × S)) (ks : List S), σ = [v0, v1, some (.ref d1), some (.ref d2), some (.ref d3), v5, v6, v7, v8, v9] ∧ KS ks ∧ H d1 = some (.dK (wd p1)) ∧ H d2 = some (.dK (wd p2)) ∧ H d3 = some (.dK (wd p3)) ∧ PG ks p1 ∧ PG ks p2 ∧ PG ks p3 ∧ ∀ H', Same H H' → D.rt (.bl true) H'
def tEnd (CM : Addr) : TS := fun D σ H => ∃ (v0 v1 v2 v3 v4 v8 v9 : Option V) (a b c : Addr) (ks : List S) (f1 f2 f3 : S → S), σ = [v0, v1, v2, v3, v4, some (.ref a), some (.ref b), some (.ref c), v8, v9] ∧ KS ks ∧ Mrk CM H a ks f1 ∧ Mrk CM H b ks f2 ∧ Mrk CM H c ks f3 ∧ ∀ H', Same H H' → D.rt (.bl true) H'
theorem right_end9 {f fWd fU fJ fI fO pO fOr fAn fA fE : Addr} {fdWd fdU fdJ fdI fdOr fdAn fdA fdE : FuncData} {cdv : Value} {A : Around} {outer : List Env} {s : Shared} {H0 : Hp} {E : XK} (hr : Room 9 (A.deeper (envOfC "_law_right" (defScope sRight) s.heap.objs.size f cdv))) (T : Bare mg) (cf : ClsF K CM) (ins : IsF K CM CM) (nf : PySem.W.notFirst K CM (.ref CM) = true) (hsf : PySem.W.selfFirst K CM = true)
    (hne : PySem.W.findIn K (.ref CM) "__ne__" = some (some (.builtin "object.__ne__"))) (hob : PySem.W.subIn K (.ref CM) (.type "object") = some true)
    (GWd : FnOk P w K mg base CX0 3 fWd fdWd ["_law_dice_here", "_law_kinds"] spWords) (bWd : Binds K fdWd ["_law_dice_here", "_law_kinds"] []) (kWd : PySem.W.keepIn K (.ref fWd) = true) (mWd : mg "_law_words" = some (.ref fWd))
    (GU : FnOk P w K mg base CX0 1 fU fdU ["_law_dice_here", "_law_total"] spPull) (bU : Binds K fdU ["_law_dice_here", "_law_total"] []) (kU : PySem.W.keepIn K (.ref fU) = true) (mU : mg "_law_pull" = some (.ref fU))
    (GJ : FnOk P w K mg base CX0 2 fJ fdJ ["_law_first", "_law_second", "_law_is_greater"] spJoinedG) (bJ : Binds K fdJ ["_law_first", "_law_second", "_law_is_greater"] []) (kJ : PySem.W.keepIn K (.ref fJ) = true) (mJ : mg "_law_joined" = some (.ref fJ))
    (GI : FnOk P w K mg base CX0 2 fI fdI ["_law_first", "_law_second"] spWithinG) (bI : Binds K fdI ["_law_first", "_law_second"] []) (kI : PySem.W.keepIn K (.ref fI) = true) (mI : mg "_law_is_within" = some (.ref fI))
    (mM : mg "Marking" = some (.ref CM)) (cr : CRead K CM mc) (cO : CMet K CM mc "of" pO fO) (GO : FnR P w K mg base CX0 6 fO (spOfG CM))
    (GOr : FnOk P w K mg base CX0 8 fOr fdOr ["self", "other"] (spJoin mxW CM)) (bOr : Binds K fdOr ["self", "other"] []) (sO' : PySem.W.findIn K (.ref CM) (PySem.dunder (Operator.info .BitOr).2) = some (some (.ref fOr))) (nO' : PySem.W.isFn K (.ref fOr) = true)
    (GAn : FnOk P w K mg base CX0 8 fAn fdAn ["self", "other"] (spJoin mnW CM)) (bAn : Binds K fdAn ["self", "other"] []) (sN' : PySem.W.findIn K (.ref CM) (PySem.dunder (Operator.info .BitAnd).2) = some (some (.ref fAn))) (nN' : PySem.W.isFn K (.ref fAn) = true)
    (GA : FnOk P w K mg base CX0 3 fA fdA ["self", "value"] (spAtMostG CM)) (bA : Binds K fdA ["self", "value"] []) (mA : Meth K CM "is_at_most" fA)
    (GE : FnOk P w K mg base CX0 4 fE fdE ["self", "other"] (spEq K CM CM)) (bE : Binds K fdE ["self", "other"] []) (sE : PySem.W.findIn K (.ref CM) "__eq__" = some (some (.ref fE))) (nE : PySem.W.isFn K (.ref fE) = true) :
    PSs (cxOf CX0 P w K mg base nR47 "_law_right" (defScope sRight) f cdv A outer s H0 E).nox ((defBody sRight).drop 9) (tEnd CM) := by
  have hr6 : Room 6 _ := hr.mono (by decide)
  have hrO : Room 8 _ := hr.mono (by decide)
  have hr3 : Room 3 _ := hr.mono (by decide)
  have hrE : Room 5 _ := hr.mono (by decide)
  have hrE4 : Room 4 _ := hr.mono (by decide)
  have oO : ∀ E, OwnM (cxOf CX0 P w K mg base nR47 "_law_right" (defScope sRight) f cdv A outer s H0 E).nox CX0 8 CM (PySem.dunder (Operator.info .BitOr).2) fOr fdOr ["self", "other"] (spJoin mxW CM) E0 := fun E => ⟨GOr, bOr, pass0, sO', nO'⟩
  have oN : ∀ E, OwnM (cxOf CX0 P w K mg base nR47 "_law_right" (defScope sRight) f cdv A outer s H0 E).nox CX0 8 CM (PySem.dunder (Operator.info .BitAnd).2) fAn fdAn ["self", "other"] (spJoin mnW CM) E0 := fun E => ⟨GAn, bAn, pass0, sN', nN'⟩
  have oE : ∀ E, OwnM (cxOf CX0 P w K mg base nR47 "_law_right" (defScope sRight) f cdv A outer s H0 E).nox CX0 4 CM "__eq__" fE fdE ["self", "other"] (spEq K CM CM) E0 := fun E => ⟨GE, bE, pass0, sE, nE⟩
  refine pss_conv (pss_one (ps_ret (pe_and (pe_cmpR (op_eqG (oE _) ins nf cf.cl hrE4) (pe_op (op_joinG (oO _) hsf hrO mxW_w3) (pe_op (op_joinG (oO _) hsf hrO mxW_w3) (pv 5) (pv 6)) (pv 7)) (pe_op (op_joinG (oO _) hsf hrO mxW_w3) (pv 5) (pe_op (op_joinG (oO _) hsf hrO mxW_w3) (pv 6) (pv 7))) (nomark _)) (pe_one (pe_cmpR op_eq (pe_meth (pv 5) cf.cl mA GA hr3 bA .nil pass0 (pa_cons (pv 6) pa_nil)) (pe_cmpR (op_eqG (oE _) ins nf cf.cl hrE4) (pe_op (op_joinG (oO _) hsf hrO mxW_w3) (pv 5) (pv 6)) (pv 6) (nomark _)) (nomark _)))))) fun pins s1 σ H D I h => ?_
  obtain ⟨v0, v1, v2, v3, v4, v8, v9, a, b, c, ks, f1, f2, f3, rfl, hks, ma, mb, mc, k⟩ := h
  have w1 := ma.w3
  have w2 := mb.w3
  have w3 := mc.w3
  obtain ⟨da, xa, ia⟩ := ma.ins
  obtain ⟨db, xb, ib⟩ := mb.ins
  obtain ⟨dc, xc, ic⟩ := mc.ins
  have a123 := mx_assoc w1 w2 w3
  refine ⟨_, rfl, _, rfl, a, b, ks, _, _, rfl, rfl, hks, ma, mb, fun G1 o1 t1 _ n1 => ?_⟩
  refine ⟨_, rfl, o1, c, ks, _, _, rfl, rfl, hks, n1, mc.same t1, fun G2 o2 t2 _ n2 => ?_⟩
  have u2 := t1.trans t2
  refine ⟨_, rfl, _, rfl, _, rfl, b, c, ks, _, _, rfl, rfl, hks, mb.same u2, mc.same u2, fun G3 o3 t3 _ n3 => ?_⟩
  have u3 := u2.trans t3
  refine ⟨a, o3, ks, _, _, rfl, rfl, hks, ma.same u3, n3, fun G4 o4 t4 _ n4 => ?_⟩
  have u4 := u3.trans t4
  rw [← a123] at n4
  refine ⟨o2, o4, ks, _, _, rfl, rfl, n2.same (t3.trans t4), n4, fun G5 t5 => ⟨_, rfl, ?_⟩⟩
  rw [eqG_refl]
  have u5 := u4.trans t5
  refine ⟨_, rfl, a, da, _, rfl, u5 _ _ ia, no_lk (by decide +kernel) (by decide +kernel), _, rfl, a, b, ks, ks, _, _, rfl, ma.same u5, mb.same u5, fun G6 t6 => ?_⟩
  have u6 := u5.trans t6
  refine ⟨_, rfl, _, rfl, a, b, ks, _, _, rfl, rfl, hks, ma.same u6, mb.same u6, fun G7 o7 t7 _ n7 => ?_⟩
  have u7 := u6.trans t7
  refine ⟨_, rfl, o7, b, ks, _, _, rfl, rfl, n7, mb.same u7, fun G8 t8 => ⟨rfl, ?_⟩⟩
  rw [le_eq]
  show D.rt (.bl (decide (V.bl (leG f1 f2) = V.bl (leG f1 f2)))) G8
  rw [decide_eq_true rfl]
  exact k G8 (u7.trans t8)
theorem right_end8 {f fWd fU fJ fI fO pO fOr fAn fA fE : Addr} {fdWd fdU fdJ fdI fdOr fdAn fdA fdE : FuncData} {cdv : Value} {A : Around} {outer : List Env} {s : Shared} {H0 : Hp} {E : XK} (hr : Room 9 (A.deeper (envOfC "_law_right" (defScope sRight) s.heap.objs.size f cdv))) (T : Bare mg) (cf : ClsF K CM) (ins : IsF K CM CM) (nf : PySem.W.notFirst K CM (.ref CM) = true) (hsf : PySem.W.selfFirst K CM = true)
    (hne : PySem.W.findIn K (.ref CM) "__ne__" = some (some (.builtin "object.__ne__"))) (hob : PySem.W.subIn K (.ref CM) (.type "object") = some true)
    (GWd : FnOk P w K mg base CX0 3 fWd fdWd ["_law_dice_here", "_law_kinds"] spWords) (bWd : Binds K fdWd ["_law_dice_here", "_law_kinds"] []) (kWd : PySem.W.keepIn K (.ref fWd) = true) (mWd : mg "_law_words" = some (.ref fWd))
    (GU : FnOk P w K mg base CX0 1 fU fdU ["_law_dice_here", "_law_total"] spPull) (bU : Binds K fdU ["_law_dice_here", "_law_total"] []) (kU : PySem.W.keepIn K (.ref fU) = true) (mU : mg "_law_pull" = some (.ref fU))
    (GJ : FnOk P w K mg base CX0 2 fJ fdJ ["_law_first", "_law_second", "_law_is_greater"] spJoinedG) (bJ : Binds K fdJ ["_law_first", "_law_second", "_law_is_greater"] []) (kJ : PySem.W.keepIn K (.ref fJ) = true) (mJ : mg "_law_joined" = some (.ref fJ))
    (GI : FnOk P w K mg base CX0 2 fI fdI ["_law_first", "_law_second"] spWithinG) (bI : Binds K fdI ["_law_first", "_law_second"] []) (kI : PySem.W.keepIn K (.ref fI) = true) (mI : mg "_law_is_within" = some (.ref fI))
    (mM : mg "Marking" = some (.ref CM)) (cr : CRead K CM mc) (cO : CMet K CM mc "of" pO fO) (GO : FnR P w K mg base CX0 6 fO (spOfG CM))
    (GOr : FnOk P w K mg base CX0 8 fOr fdOr ["self", "other"] (spJoin mxW CM)) (bOr : Binds K fdOr ["self", "other"] []) (sO' : PySem.W.findIn K (.ref CM) (PySem.dunder (Operator.info .BitOr).2) = some (some (.ref fOr))) (nO' : PySem.W.isFn K (.ref fOr) = true)
    (GAn : FnOk P w K mg base CX0 8 fAn fdAn ["self", "other"] (spJoin mnW CM)) (bAn : Binds K fdAn ["self", "other"] []) (sN' : PySem.W.findIn K (.ref CM) (PySem.dunder (Operator.info .BitAnd).2) = some (some (.ref fAn))) (nN' : PySem.W.isFn K (.ref fAn) = true)
    (GA : FnOk P w K mg base CX0 3 fA fdA ["self", "value"] (spAtMostG CM)) (bA : Binds K fdA ["self", "value"] []) (mA : Meth K CM "is_at_most" fA)
    (GE : FnOk P w K mg base CX0 4 fE fdE ["self", "other"] (spEq K CM CM)) (bE : Binds K fdE ["self", "other"] []) (sE : PySem.W.findIn K (.ref CM) "__eq__" = some (some (.ref fE))) (nE : PySem.W.isFn K (.ref fE) = true) :
    PSs (cxOf CX0 P w K mg base nR47 "_law_right" (defScope sRight) f cdv A outer s H0 E).nox ((defBody sRight).drop 8) (tEnd CM) := by
  have hr6 : Room 6 _ := hr.mono (by decide)
  have hrO : Room 8 _ := hr.mono (by decide)
  have hr3 : Room 3 _ := hr.mono (by decide)
  have hrE : Room 5 _ := hr.mono (by decide)
  have hrE4 : Room 4 _ := hr.mono (by decide)
  have oO : ∀ E, OwnM (cxOf CX0 P w K mg base nR47 "_law_right" (defScope sRight) f cdv A outer s H0 E).nox CX0 8 CM (PySem.dunder (Operator.info .BitOr).2) fOr fdOr ["self", "other"] (spJoin mxW CM) E0 := fun E => ⟨GOr, bOr, pass0, sO', nO'⟩
  have oN : ∀ E, OwnM (cxOf CX0 P w K mg base nR47 "_law_right" (defScope sRight) f cdv A outer s H0 E).nox CX0 8 CM (PySem.dunder (Operator.info .BitAnd).2) fAn fdAn ["self", "other"] (spJoin mnW CM) E0 := fun E => ⟨GAn, bAn, pass0, sN', nN'⟩
  have oE : ∀ E, OwnM (cxOf CX0 P w K mg base nR47 "_law_right" (defScope sRight) f cdv A outer s H0 E).nox CX0 4 CM "__eq__" fE fdE ["self", "other"] (spEq K CM CM) E0 := fun E => ⟨GE, bE, pass0, sE, nE⟩
  have L := right_end9 (cdv := cdv) (A := A) (outer := outer) (s := s) (H0 := H0) (E := E) (f := f) hr T cf ins nf hsf hne hob GWd bWd kWd mWd GU bU kU mU GJ bJ kJ mJ GI bI kI mI mM cr cO GO GOr bOr sO' nO' GAn bAn sN' nN' GA bA mA GE bE sE nE
  refine pss_conv (pss_cons (ps_if (pt_cmpR op_ne (pe_meth (pv 7) cf.cl mA GA hr3 bA .nil pass0 (pa_cons (pe_op (op_joinG (oN _) hsf hrO mnW_w3) (pv 5) (pv 6)) pa_nil)) (pe_and (pe_meth (pv 7) cf.cl mA GA hr3 bA .nil pass0 (pa_cons (pv 5) pa_nil)) (pe_one (pe_meth (pv 7) cf.cl mA GA hr3 bA .nil pass0 (pa_cons (pv 6) pa_nil)))) (nomark _)) (pss_one (ps_ret pe_bl)) pss_nil) L) fun pins s1 σ H D I h => ?_
  obtain ⟨v0, v1, v2, v3, v4, v8, v9, a, b, c, ks, f1, f2, f3, rfl, hks, ma, mb, mc, k⟩ := h
  have w1 := ma.w3
  have w2 := mb.w3
  have w3 := mc.w3
  obtain ⟨da, xa, ia⟩ := ma.ins
  obtain ⟨db, xb, ib⟩ := mb.ins
  obtain ⟨dc, xc, ic⟩ := mc.ins
  have fin : ∀ (G : Hp), Same H G → (tEnd CM) D [v0, v1, v2, v3, v4, some (.ref a), some (.ref b), some (.ref c), v8, v9] G := fun G u => ⟨v0, v1, v2, v3, v4, v8, v9, a, b, c, ks, f1, f2, f3, rfl, hks, ma.same u, mb.same u, mc.same u, fun H' s => k H' (u.trans s)⟩
  refine ⟨_, rfl, c, dc, _, rfl, ic, no_lk (by decide +kernel) (by decide +kernel), _, rfl, _, rfl, a, b, ks, _, _, rfl, rfl, hks, ma, mb, fun G1 o1 t1 _ n1 => ?_⟩
  refine ⟨c, o1, ks, ks, _, _, rfl, mc.same t1, n1, fun G2 t2 => ?_⟩
  rw [le_mn]
  have u2 := t1.trans t2
  refine ⟨_, rfl, c, dc, _, rfl, u2 _ _ ic, no_lk (by decide +kernel) (by decide +kernel), _, rfl, c, a, ks, ks, _, _, rfl, mc.same u2, ma.same u2, fun G3 t3 => ⟨_, rfl, ?_⟩⟩
  have u3 := u2.trans t3
  cases z : leG f3 f1 with
  | false => exact ⟨rfl, _, rfl, fin G3 u3⟩
  | true =>
    refine ⟨_, rfl, c, dc, _, rfl, u3 _ _ ic, no_lk (by decide +kernel) (by decide +kernel), _, rfl, c, b, ks, ks, _, _, rfl, mc.same u3, mb.same u3, fun G4 t4 => ⟨rfl, _, rfl, ?_⟩⟩
    rw [show (!decide (V.bl (true && leG f3 f2) = V.bl (leG f3 f2))) = false by simp]
    exact fin G4 (u3.trans t4)
theorem right_end7 {f fWd fU fJ fI fO pO fOr fAn fA fE : Addr} {fdWd fdU fdJ fdI fdOr fdAn fdA fdE : FuncData} {cdv : Value} {A : Around} {outer : List Env} {s : Shared} {H0 : Hp} {E : XK} (hr : Room 9 (A.deeper (envOfC "_law_right" (defScope sRight) s.heap.objs.size f cdv))) (T : Bare mg) (cf : ClsF K CM) (ins : IsF K CM CM) (nf : PySem.W.notFirst K CM (.ref CM) = true) (hsf : PySem.W.selfFirst K CM = true)
    (hne : PySem.W.findIn K (.ref CM) "__ne__" = some (some (.builtin "object.__ne__"))) (hob : PySem.W.subIn K (.ref CM) (.type "object") = some true)
    (GWd : FnOk P w K mg base CX0 3 fWd fdWd ["_law_dice_here", "_law_kinds"] spWords) (bWd : Binds K fdWd ["_law_dice_here", "_law_kinds"] []) (kWd : PySem.W.keepIn K (.ref fWd) = true) (mWd : mg "_law_words" = some (.ref fWd))
    (GU : FnOk P w K mg base CX0 1 fU fdU ["_law_dice_here", "_law_total"] spPull) (bU : Binds K fdU ["_law_dice_here", "_law_total"] []) (kU : PySem.W.keepIn K (.ref fU) = true) (mU : mg "_law_pull" = some (.ref fU))
    (GJ : FnOk P w K mg base CX0 2 fJ fdJ ["_law_first", "_law_second", "_law_is_greater"] spJoinedG) (bJ : Binds K fdJ ["_law_first", "_law_second", "_law_is_greater"] []) (kJ : PySem.W.keepIn K (.ref fJ) = true) (mJ : mg "_law_joined" = some (.ref fJ))
    (GI : FnOk P w K mg base CX0 2 fI fdI ["_law_first", "_law_second"] spWithinG) (bI : Binds K fdI ["_law_first", "_law_second"] []) (kI : PySem.W.keepIn K (.ref fI) = true) (mI : mg "_law_is_within" = some (.ref fI))
    (mM : mg "Marking" = some (.ref CM)) (cr : CRead K CM mc) (cO : CMet K CM mc "of" pO fO) (GO : FnR P w K mg base CX0 6 fO (spOfG CM))
    (GOr : FnOk P w K mg base CX0 8 fOr fdOr ["self", "other"] (spJoin mxW CM)) (bOr : Binds K fdOr ["self", "other"] []) (sO' : PySem.W.findIn K (.ref CM) (PySem.dunder (Operator.info .BitOr).2) = some (some (.ref fOr))) (nO' : PySem.W.isFn K (.ref fOr) = true)
    (GAn : FnOk P w K mg base CX0 8 fAn fdAn ["self", "other"] (spJoin mnW CM)) (bAn : Binds K fdAn ["self", "other"] []) (sN' : PySem.W.findIn K (.ref CM) (PySem.dunder (Operator.info .BitAnd).2) = some (some (.ref fAn))) (nN' : PySem.W.isFn K (.ref fAn) = true)
    (GA : FnOk P w K mg base CX0 3 fA fdA ["self", "value"] (spAtMostG CM)) (bA : Binds K fdA ["self", "value"] []) (mA : Meth K CM "is_at_most" fA)
    (GE : FnOk P w K mg base CX0 4 fE fdE ["self", "other"] (spEq K CM CM)) (bE : Binds K fdE ["self", "other"] []) (sE : PySem.W.findIn K (.ref CM) "__eq__" = some (some (.ref fE))) (nE : PySem.W.isFn K (.ref fE) = true) :
    PSs (cxOf CX0 P w K mg base nR47 "_law_right" (defScope sRight) f cdv A outer s H0 E).nox ((defBody sRight).drop 7) (tEnd CM) := by
  have hr6 : Room 6 _ := hr.mono (by decide)
  have hrO : Room 8 _ := hr.mono (by decide)
  have hr3 : Room 3 _ := hr.mono (by decide)
  have hrE : Room 5 _ := hr.mono (by decide)
  have hrE4 : Room 4 _ := hr.mono (by decide)
  have oO : ∀ E, OwnM (cxOf CX0 P w K mg base nR47 "_law_right" (defScope sRight) f cdv A outer s H0 E).nox CX0 8 CM (PySem.dunder (Operator.info .BitOr).2) fOr fdOr ["self", "other"] (spJoin mxW CM) E0 := fun E => ⟨GOr, bOr, pass0, sO', nO'⟩
  have oN : ∀ E, OwnM (cxOf CX0 P w K mg base nR47 "_law_right" (defScope sRight) f cdv A outer s H0 E).nox CX0 8 CM (PySem.dunder (Operator.info .BitAnd).2) fAn fdAn ["self", "other"] (spJoin mnW CM) E0 := fun E => ⟨GAn, bAn, pass0, sN', nN'⟩
  have oE : ∀ E, OwnM (cxOf CX0 P w K mg base nR47 "_law_right" (defScope sRight) f cdv A outer s H0 E).nox CX0 4 CM "__eq__" fE fdE ["self", "other"] (spEq K CM CM) E0 := fun E => ⟨GE, bE, pass0, sE, nE⟩
  have L := right_end8 (cdv := cdv) (A := A) (outer := outer) (s := s) (H0 := H0) (E := E) (f := f) hr T cf ins nf hsf hne hob GWd bWd kWd mWd GU bU kU mU GJ bJ kJ mJ GI bI kI mI mM cr cO GO GOr bOr sO' nO' GAn bAn sN' nN' GA bA mA GE bE sE nE
  refine pss_conv (pss_cons (ps_if (pt_cmpR op_ne (pe_meth (pe_op (op_joinG (oO _) hsf hrO mxW_w3) (pv 5) (pv 6)) cf.cl mA GA hr3 bA .nil pass0 (pa_cons (pv 7) pa_nil)) (pe_and (pe_meth (pv 5) cf.cl mA GA hr3 bA .nil pass0 (pa_cons (pv 7) pa_nil)) (pe_one (pe_meth (pv 6) cf.cl mA GA hr3 bA .nil pass0 (pa_cons (pv 7) pa_nil)))) (nomark _)) (pss_one (ps_ret pe_bl)) pss_nil) L) fun pins s1 σ H D I h => ?_
  obtain ⟨v0, v1, v2, v3, v4, v8, v9, a, b, c, ks, f1, f2, f3, rfl, hks, ma, mb, mc, k⟩ := h
  have w1 := ma.w3
  have w2 := mb.w3
  have w3 := mc.w3
  obtain ⟨da, xa, ia⟩ := ma.ins
  obtain ⟨db, xb, ib⟩ := mb.ins
  obtain ⟨dc, xc, ic⟩ := mc.ins
  have fin : ∀ (G : Hp), Same H G → (tEnd CM) D [v0, v1, v2, v3, v4, some (.ref a), some (.ref b), some (.ref c), v8, v9] G := fun G u => ⟨v0, v1, v2, v3, v4, v8, v9, a, b, c, ks, f1, f2, f3, rfl, hks, ma.same u, mb.same u, mc.same u, fun H' s => k H' (u.trans s)⟩
  refine ⟨_, rfl, _, rfl, a, b, ks, _, _, rfl, rfl, hks, ma, mb, fun G1 o1 t1 _ n1 => ?_⟩
  obtain ⟨d1, x1, i1⟩ := n1.ins
  refine ⟨o1, d1, _, rfl, i1, no_lk (by decide +kernel) (by decide +kernel), _, rfl, o1, c, ks, ks, _, _, rfl, n1, mc.same t1, fun G2 t2 => ?_⟩
  rw [mx_le]
  have u2 := t1.trans t2
  refine ⟨_, rfl, a, da, _, rfl, u2 _ _ ia, no_lk (by decide +kernel) (by decide +kernel), _, rfl, a, c, ks, ks, _, _, rfl, ma.same u2, mc.same u2, fun G3 t3 => ⟨_, rfl, ?_⟩⟩
  have u3 := u2.trans t3
  cases z : leG f1 f3 with
  | false => exact ⟨rfl, _, rfl, fin G3 u3⟩
  | true =>
    refine ⟨_, rfl, b, db, _, rfl, u3 _ _ ib, no_lk (by decide +kernel) (by decide +kernel), _, rfl, b, c, ks, ks, _, _, rfl, mb.same u3, mc.same u3, fun G4 t4 => ⟨rfl, _, rfl, ?_⟩⟩
    rw [show (!decide (V.bl (true && leG f2 f3) = V.bl (leG f2 f3))) = false by simp]
    exact fin G4 (u3.trans t4)
theorem right_tail {f fWd fU fJ fI fO pO fOr fAn fA fE : Addr} {fdWd fdU fdJ fdI fdOr fdAn fdA fdE : FuncData} {cdv : Value} {A : Around} {outer : List Env} {s : Shared} {H0 : Hp} {E : XK} (hr : Room 9 (A.deeper (envOfC "_law_right" (defScope sRight) s.heap.objs.size f cdv))) (T : Bare mg) (cf : ClsF K CM) (ins : IsF K CM CM) (nf : PySem.W.notFirst K CM (.ref CM) = true) (hsf : PySem.W.selfFirst K CM = true)
    (hne : PySem.W.findIn K (.ref CM) "__ne__" = some (some (.builtin "object.__ne__"))) (hob : PySem.W.subIn K (.ref CM) (.type "object") = some true)
    (GWd : FnOk P w K mg base CX0 3 fWd fdWd ["_law_dice_here", "_law_kinds"] spWords) (bWd : Binds K fdWd ["_law_dice_here", "_law_kinds"] []) (kWd : PySem.W.keepIn K (.ref fWd) = true) (mWd : mg "_law_words" = some (.ref fWd))
    (GU : FnOk P w K mg base CX0 1 fU fdU ["_law_dice_here", "_law_total"] spPull) (bU : Binds K fdU ["_law_dice_here", "_law_total"] []) (kU : PySem.W.keepIn K (.ref fU) = true) (mU : mg "_law_pull" = some (.ref fU))
    (GJ : FnOk P w K mg base CX0 2 fJ fdJ ["_law_first", "_law_second", "_law_is_greater"] spJoinedG) (bJ : Binds K fdJ ["_law_first", "_law_second", "_law_is_greater"] []) (kJ : PySem.W.keepIn K (.ref fJ) = true) (mJ : mg "_law_joined" = some (.ref fJ))
    (GI : FnOk P w K mg base CX0 2 fI fdI ["_law_first", "_law_second"] spWithinG) (bI : Binds K fdI ["_law_first", "_law_second"] []) (kI : PySem.W.keepIn K (.ref fI) = true) (mI : mg "_law_is_within" = some (.ref fI))
    (mM : mg "Marking" = some (.ref CM)) (cr : CRead K CM mc) (cO : CMet K CM mc "of" pO fO) (GO : FnR P w K mg base CX0 6 fO (spOfG CM))
    (GOr : FnOk P w K mg base CX0 8 fOr fdOr ["self", "other"] (spJoin mxW CM)) (bOr : Binds K fdOr ["self", "other"] []) (sO' : PySem.W.findIn K (.ref CM) (PySem.dunder (Operator.info .BitOr).2) = some (some (.ref fOr))) (nO' : PySem.W.isFn K (.ref fOr) = true)
    (GAn : FnOk P w K mg base CX0 8 fAn fdAn ["self", "other"] (spJoin mnW CM)) (bAn : Binds K fdAn ["self", "other"] []) (sN' : PySem.W.findIn K (.ref CM) (PySem.dunder (Operator.info .BitAnd).2) = some (some (.ref fAn))) (nN' : PySem.W.isFn K (.ref fAn) = true)
    (GA : FnOk P w K mg base CX0 3 fA fdA ["self", "value"] (spAtMostG CM)) (bA : Binds K fdA ["self", "value"] []) (mA : Meth K CM "is_at_most" fA)
    (GE : FnOk P w K mg base CX0 4 fE fdE ["self", "other"] (spEq K CM CM)) (bE : Binds K fdE ["self", "other"] []) (sE : PySem.W.findIn K (.ref CM) "__eq__" = some (some (.ref fE))) (nE : PySem.W.isFn K (.ref fE) = true) :
    PSs (cxOf CX0 P w K mg base nR47 "_law_right" (defScope sRight) f cdv A outer s H0 E).nox ((defBody sRight).drop 2) tRight := by
  have hr6 : Room 6 _ := hr.mono (by decide)
  have hrO : Room 8 _ := hr.mono (by decide)
  have hr3 : Room 3 _ := hr.mono (by decide)
  have hrE : Room 5 _ := hr.mono (by decide)
  have hrE4 : Room 4 _ := hr.mono (by decide)
  have oO : ∀ E, OwnM (cxOf CX0 P w K mg base nR47 "_law_right" (defScope sRight) f cdv A outer s H0 E).nox CX0 8 CM (PySem.dunder (Operator.info .BitOr).2) fOr fdOr ["self", "other"] (spJoin mxW CM) E0 := fun E => ⟨GOr, bOr, pass0, sO', nO'⟩
  have oN : ∀ E, OwnM (cxOf CX0 P w K mg base nR47 "_law_right" (defScope sRight) f cdv A outer s H0 E).nox CX0 8 CM (PySem.dunder (Operator.info .BitAnd).2) fAn fdAn ["self", "other"] (spJoin mnW CM) E0 := fun E => ⟨GAn, bAn, pass0, sN', nN'⟩
  have oE : ∀ E, OwnM (cxOf CX0 P w K mg base nR47 "_law_right" (defScope sRight) f cdv A outer s H0 E).nox CX0 4 CM "__eq__" fE fdE ["self", "other"] (spEq K CM CM) E0 := fun E => ⟨GE, bE, pass0, sE, nE⟩
  have L := right_end7 (cdv := cdv) (A := A) (outer := outer) (s := s) (H0 := H0) (E := E) (f := f) hr T cf ins nf hsf hne hob GWd bWd kWd mWd GU bU kU mU GJ bJ kJ mJ GI bI kI mI mM cr cO GO GOr bOr sO' nO' GAn bAn sN' nN' GA bA mA GE bE sE nE
  refine pss_conv (pss_cons (ps_par3 (i := 5) (j := 6) (l := 7) rfl scR47.nd rfl rfl rfl (by decide) (by decide) (by decide) rfl rfl rfl (pa_cons (pe_cmeth (pe_glob (v := .ref CM) rfl mM rfl) cr cO GO hr6 pass0 (pa_cons (pv 2) pa_nil)) (pa_cons (pe_cmeth (pe_glob (v := .ref CM) rfl mM rfl) cr cO GO hr6 pass0 (pa_cons (pv 3) pa_nil)) (pa_cons (pe_cmeth (pe_glob (v := .ref CM) rfl mM rfl) cr cO GO hr6 pass0 (pa_cons (pv 4) pa_nil)) pa_nil))) (by rfl))
      (pss_cons (ps_if (PW.pt (pw_or (pt_cmpR (op_neG (oE _) ins nf cf.cl hne hob hrE) (pe_op (op_joinG (oO _) hsf hrO mxW_w3) (pv 5) (pv 6)) (pe_cmeth (pe_glob (v := .ref CM) rfl mM rfl) cr cO GO hr6 pass0 (pa_cons (pe_call GJ (hr.mono (by decide)) (by rfl) mJ kJ bJ .nil pass0 (pa_cons (pv 2) (pa_cons (pv 3) (pa_cons pe_bl pa_nil)))) pa_nil)) (nomark _)) (pw_or1 (pt_cmpR (op_neG (oE _) ins nf cf.cl hne hob hrE) (pe_op (op_joinG (oO _) hsf hrO mxW_w3) (pv 5) (pv 6)) (pe_op (op_joinG (oO _) hsf hrO mxW_w3) (pv 6) (pv 5)) (nomark _))))) (pss_one (ps_ret pe_bl)) pss_nil)
      (pss_cons (ps_if (PW.pt (pw_or (pt_cmpR (op_neG (oE _) ins nf cf.cl hne hob hrE) (pe_op (op_joinG (oN _) hsf hrO mnW_w3) (pv 5) (pv 6)) (pe_cmeth (pe_glob (v := .ref CM) rfl mM rfl) cr cO GO hr6 pass0 (pa_cons (pe_call GJ (hr.mono (by decide)) (by rfl) mJ kJ bJ .nil pass0 (pa_cons (pv 2) (pa_cons (pv 3) (pa_cons pe_bl pa_nil)))) pa_nil)) (nomark _)) (pw_or1 (pt_cmpR (op_neG (oE _) ins nf cf.cl hne hob hrE) (pe_op (op_joinG (oN _) hsf hrO mnW_w3) (pv 5) (pv 6)) (pe_op (op_joinG (oN _) hsf hrO mnW_w3) (pv 6) (pv 5)) (nomark _))))) (pss_one (ps_ret pe_bl)) pss_nil)
      (pss_cons (ps_set (i := 8) scR47.nd rfl (Or.inl rfl) (pe_lst (pa_cons (pe_meth (pv 5) cf.cl mA GA hr3 bA .nil pass0 (pa_cons (pv 6) pa_nil)) (pa_cons (pe_meth (pv 5) cf.cl mA GA hr3 bA .nil pass0 (pa_cons (pv 5) pa_nil)) (pa_cons (pe_meth (pv 5) cf.cl mA GA hr3 bA .nil pass0 (pa_cons (pe_op (op_joinG (oO _) hsf hrO mxW_w3) (pv 5) (pv 7)) pa_nil)) (pa_cons (pe_meth (pe_op (op_joinG (oN _) hsf hrO mnW_w3) (pv 5) (pv 7)) cf.cl mA GA hr3 bA .nil pass0 (pa_cons (pv 5) pa_nil)) pa_nil))))))
      (pss_cons (ps_if (pt_cmpR (op_neD hr.units) (pv 8) (pe_lst (pa_cons (pe_call GI (hr.mono (by decide)) (by rfl) mI kI bI .nil pass0 (pa_cons (pv 2) (pa_cons (pv 3) pa_nil))) (pa_cons pe_bl (pa_cons pe_bl (pa_cons pe_bl pa_nil))))) (nomark _)) (pss_one (ps_ret pe_bl)) pss_nil)
      L))))) fun pins s1 σ H D I h => ?_
  obtain ⟨v0, v1, v5, v6, v7, v8, v9, d1, d2, d3, p1, p2, p3, ks, rfl, hks, h1, h2, h3, g1, g2, g3, k⟩ := h
  have hsz : (1000 : Nat) ≤ sizeLine := by rw [sizeLine_eq]; decide
  -- one, two, three
  refine ⟨rfl, _, rfl, d1, p1, ks, rfl, hks, g1, h1, fun H1 a s1 na m1 => ?_⟩
  refine ⟨rfl, _, rfl, d2, p2, ks, rfl, hks, g2, s1 _ _ h2, fun H2 b s2 nb m2 => ?_⟩
  refine ⟨rfl, _, rfl, d3, p3, ks, rfl, hks, g3, (s1.trans s2) _ _ h3, fun H3 c s3 nc m3 => ?_⟩
  have s03 := (s1.trans s2).trans s3
  have ma := m1.same (s2.trans s3)
  have mb := m2.same s3
  have e1 := s03 _ _ h1
  have e2 := s03 _ _ h2
  clear m1 m2 h1 h2 h3
  have k3 : ∀ H', Same H3 H' → D.rt (.bl true) H' := fun H' s => k H' (s03.trans s)
  clear k s03 s1 s2 s3 na nb nc
  have w1 := ma.w3
  have w2 := mb.w3
  have w3 := m3.w3
  have c12 := mx_comm w1 w2
  have d12 := mn_comm w1 w2
  have a123 := mx_assoc w1 w2 w3
  refine ⟨_, _, _, rfl, ?_⟩
  -- one | two
  refine ⟨_, rfl, _, rfl, a, b, ks, _, _, rfl, rfl, hks, ma, mb, fun G1 o1 t1 _ n1 => ?_⟩
  refine ⟨rfl, _, rfl, _, rfl, d1, d2, true, p1, p2, ks, rfl, hks, g1, g2, t1 _ _ e1, t1 _ _ e2, fun D1 G2 pl t2 _ hD1 gp hpl => ?_⟩
  have u2 := t1.trans t2
  refine ⟨D1, pl, ks, rfl, hks, gp, hD1, fun G3 o2 t3 _ n2 => ?_⟩
  have u3 := u2.trans t3
  rw [hpl.trans pick_t] at n2
  refine ⟨o1, o2, ks, _, _, rfl, rfl, n1.same (t2.trans t3), n2, fun G4 t4 => ⟨_, rfl, ?_⟩⟩
  rw [eqG_refl]
  have u4 := u3.trans t4
  refine ⟨_, rfl, _, rfl, a, b, ks, _, _, rfl, rfl, hks, ma.same u4, mb.same u4, fun G5 o5 t5 _ n5 => ?_⟩
  refine ⟨_, rfl, _, rfl, b, a, ks, _, _, rfl, rfl, hks, mb.same (u4.trans t5), ma.same (u4.trans t5), fun G6 o6 t6 _ n6 => ?_⟩
  rw [← c12] at n6
  refine ⟨o5, o6, ks, _, _, rfl, rfl, n5.same t6, n6, fun G7 t7 => ⟨_, rfl, ?_⟩⟩
  rw [eqG_refl]
  have u7 := ((u4.trans t5).trans t6).trans t7
  have ma := ma.same u7
  have mb := mb.same u7
  have mc := m3.same u7
  have e1 := u7 _ _ e1
  have e2 := u7 _ _ e2
  have k7 : ∀ H', Same G7 H' → D.rt (.bl true) H' := fun H' s => k3 H' (u7.trans s)
  clear k3 m3 n1 n2 n5 n6 t1 t2 t3 t4 t5 t6 t7 u2 u3 u4 u7 hD1
  -- one & two
  refine ⟨_, rfl, _, rfl, a, b, ks, _, _, rfl, rfl, hks, ma, mb, fun G1 o1 t1 _ n1 => ?_⟩
  refine ⟨rfl, _, rfl, _, rfl, d1, d2, false, p1, p2, ks, rfl, hks, g1, g2, t1 _ _ e1, t1 _ _ e2, fun D1 G2 pl t2 _ hD1 gp hpl => ?_⟩
  have u2 := t1.trans t2
  refine ⟨D1, pl, ks, rfl, hks, gp, hD1, fun G3 o2 t3 _ n2 => ?_⟩
  have u3 := u2.trans t3
  rw [hpl.trans pick_f] at n2
  refine ⟨o1, o2, ks, _, _, rfl, rfl, n1.same (t2.trans t3), n2, fun G4 t4 => ⟨_, rfl, ?_⟩⟩
  rw [eqG_refl]
  have u4 := u3.trans t4
  refine ⟨_, rfl, _, rfl, a, b, ks, _, _, rfl, rfl, hks, ma.same u4, mb.same u4, fun G5 o5 t5 _ n5 => ?_⟩
  refine ⟨_, rfl, _, rfl, b, a, ks, _, _, rfl, rfl, hks, mb.same (u4.trans t5), ma.same (u4.trans t5), fun G6 o6 t6 _ n6 => ?_⟩
  rw [← d12] at n6
  refine ⟨o5, o6, ks, _, _, rfl, rfl, n5.same t6, n6, fun G8 t8 => ⟨_, rfl, ?_⟩⟩
  rw [eqG_refl]
  have u7 := ((u4.trans t5).trans t6).trans t8
  have ma := ma.same u7
  have mb := mb.same u7
  have mc := mc.same u7
  have e1 := u7 _ _ e1
  have e2 := u7 _ _ e2
  have k8 : ∀ H', Same G8 H' → D.rt (.bl true) H' := fun H' s => k7 H' (u7.trans s)
  clear k7 n1 n2 n5 n6 t1 t2 t3 t4 t5 t6 t8 u2 u3 u4 u7 hD1
  -- what is told
  obtain ⟨da, xa, ia⟩ := ma.ins
  refine ⟨_, rfl, a, da, _, rfl, ia, no_lk (by decide +kernel) (by decide +kernel), _, rfl, a, b, ks, ks, _, _, rfl, ma, mb, fun G1 t1 => ?_⟩
  refine ⟨_, rfl, a, da, _, rfl, t1 _ _ ia, no_lk (by decide +kernel) (by decide +kernel), _, rfl, a, a, ks, ks, _, _, rfl, ma.same t1, ma.same t1, fun G2 t2 => ?_⟩
  have u2 := t1.trans t2
  refine ⟨_, rfl, a, da, _, rfl, u2 _ _ ia, no_lk (by decide +kernel) (by decide +kernel), _, rfl, _, rfl, a, c, ks, _, _, rfl, rfl, hks, ma.same u2, mc.same u2, fun G3 o3 t3 _ n3 => ?_⟩
  have u3 := u2.trans t3
  refine ⟨a, o3, ks, ks, _, _, rfl, ma.same u3, n3, fun G4 t4 => ?_⟩
  have u4 := u3.trans t4
  refine ⟨_, rfl, _, rfl, a, c, ks, _, _, rfl, rfl, hks, ma.same u4, mc.same u4, fun G5 o5 t5 _ n5 => ?_⟩
  have u5 := u4.trans t5
  obtain ⟨do5, xo5, io5⟩ := n5.ins
  refine ⟨o5, do5, _, rfl, io5, no_lk (by decide +kernel) (by decide +kernel), _, rfl, o5, a, ks, ks, _, _, rfl, n5, ma.same u5, fun G6 t6 => ?_⟩
  have u6 := u5.trans t6
  rw [leG_refl, le_mx, mn_le]
  refine ⟨by show 4 ≤ sizeLine; omega, fun l nl => ?_⟩
  have u7 := u6.trans (same_upd (o := .lst [.bl (leG (pw p1) (pw p2)), .bl true, .bl true, .bl true]) nl)
  have hl : (upd G6 l (.lst [.bl (leG (pw p1) (pw p2)), .bl true, .bl true, .bl true])) l = some (.lst [.bl (leG (pw p1) (pw p2)), .bl true, .bl true, .bl true]) := upd_same
  generalize upd G6 l (.lst [.bl (leG (pw p1) (pw p2)), .bl true, .bl true, .bl true]) = G7 at u7 hl ⊢
  refine ⟨_, rfl, _, rfl, _, rfl, d1, d2, p1, p2, ks, rfl, hks, g1, g2, u7 _ _ e1, u7 _ _ e2, fun G9 t9 => ?_⟩
  refine ⟨by show 4 ≤ sizeLine; omega, fun l2 nl2 => ?_⟩
  have hl9 := same_upd (o := .lst [.bl (leG (pw p1) (pw p2)), .bl true, .bl true, .bl true]) nl2 _ _ (t9 _ _ hl)
  refine ⟨.list [.bool (leG (pw p1) (pw p2)), .bool true, .bool true, .bool true], .list [.bool (leG (pw p1) (pw p2)), .bool true, .bool true, .bool true], .lst (SqL.of hl9) (.cons (.bl _) (.cons (.bl _) (.cons (.bl _) (.cons (.bl _) .nil)))), .lst (SqL.of upd_same) (.cons (.bl _) (.cons (.bl _) (.cons (.bl _) (.cons (.bl _) .nil)))), tru_sh _, tru_sh _, _, rfl, ?_⟩
  rw [tru_eq]
  have u9 := (u7.trans t9).trans (same_upd (o := .lst [.bl (leG (pw p1) (pw p2)), .bl true, .bl true, .bl true]) nl2)
  have ma := ma.same u9
  have mb := mb.same u9
  have mc := mc.same u9
  have k10 : ∀ H', Same (upd G9 l2 (.lst [.bl (leG (pw p1) (pw p2)), .bl true, .bl true, .bl true])) H' → D.rt (.bl true) H' := fun H' s => k8 H' (u9.trans s)
  generalize upd G9 l2 (.lst [.bl (leG (pw p1) (pw p2)), .bl true, .bl true, .bl true]) = H10 at ma mb mc k10 ⊢
  clear k8 e1 e2 ia io5 n3 n5 t1 t2 t3 t4 t5 t6 t9 u2 u3 u4 u5 u6 u7 u9 hl hl9 nl nl2
  exact ⟨_, _, _, _, _, _, _, a, b, c, ks, _, _, _, rfl, hks, ma, mb, mc, k10⟩
theorem ok_right {f fWd fU fJ fI fO pO fOr fAn fA fE : Addr} {fd fdWd fdU fdJ fdI fdOr fdAn fdA fdE : FuncData} (F : Fun K "_law_right" "_law_right" sRight f fd) (T : Bare mg) (cf : ClsF K CM) (ins : IsF K CM CM) (nf : PySem.W.notFirst K CM (.ref CM) = true) (hsf : PySem.W.selfFirst K CM = true)
    (hne : PySem.W.findIn K (.ref CM) "__ne__" = some (some (.builtin "object.__ne__"))) (hob : PySem.W.subIn K (.ref CM) (.type "object") = some true)
    (GWd : FnOk P w K mg base CX0 3 fWd fdWd ["_law_dice_here", "_law_kinds"] spWords) (bWd : Binds K fdWd ["_law_dice_here", "_law_kinds"] []) (kWd : PySem.W.keepIn K (.ref fWd) = true) (mWd : mg "_law_words" = some (.ref fWd))
    (GU : FnOk P w K mg base CX0 1 fU fdU ["_law_dice_here", "_law_total"] spPull) (bU : Binds K fdU ["_law_dice_here", "_law_total"] []) (kU : PySem.W.keepIn K (.ref fU) = true) (mU : mg "_law_pull" = some (.ref fU))
    (GJ : FnOk P w K mg base CX0 2 fJ fdJ ["_law_first", "_law_second", "_law_is_greater"] spJoinedG) (bJ : Binds K fdJ ["_law_first", "_law_second", "_law_is_greater"] []) (kJ : PySem.W.keepIn K (.ref fJ) = true) (mJ : mg "_law_joined" = some (.ref fJ))
    (GI : FnOk P w K mg base CX0 2 fI fdI ["_law_first", "_law_second"] spWithinG) (bI : Binds K fdI ["_law_first", "_law_second"] []) (kI : PySem.W.keepIn K (.ref fI) = true) (mI : mg "_law_is_within" = some (.ref fI))
    (mM : mg "Marking" = some (.ref CM)) (cr : CRead K CM mc) (cO : CMet K CM mc "of" pO fO) (GO : FnR P w K mg base CX0 6 fO (spOfG CM))
    (GOr : FnOk P w K mg base CX0 8 fOr fdOr ["self", "other"] (spJoin mxW CM)) (bOr : Binds K fdOr ["self", "other"] []) (sO' : PySem.W.findIn K (.ref CM) (PySem.dunder (Operator.info .BitOr).2) = some (some (.ref fOr))) (nO' : PySem.W.isFn K (.ref fOr) = true)
    (GAn : FnOk P w K mg base CX0 8 fAn fdAn ["self", "other"] (spJoin mnW CM)) (bAn : Binds K fdAn ["self", "other"] []) (sN' : PySem.W.findIn K (.ref CM) (PySem.dunder (Operator.info .BitAnd).2) = some (some (.ref fAn))) (nN' : PySem.W.isFn K (.ref fAn) = true)
    (GA : FnOk P w K mg base CX0 3 fA fdA ["self", "value"] (spAtMostG CM)) (bA : Binds K fdA ["self", "value"] []) (mA : Meth K CM "is_at_most" fA)
    (GE : FnOk P w K mg base CX0 4 fE fdE ["self", "other"] (spEq K CM CM)) (bE : Binds K fdE ["self", "other"] []) (sE : PySem.W.findIn K (.ref CM) "__eq__" = some (some (.ref fE))) (nE : PySem.W.isFn K (.ref fE) = true) : FnOk P w K mg base CX0 10 f fd ["_law_dice_here", "_law_kinds"] spRight := by
  refine F.ok scR47 (fun vs H Q E h => ?_) (fun cdv A outer s H vs Q E hr h => ?_)
  · obtain ⟨p, q, x, y, z, ks, rfl, _⟩ := h
    rfl
  · obtain ⟨p, q, x, y, z, ks, rfl, D, npq, hq, hK, k⟩ := h
    have hr6 : Room 6 _ := hr.mono (by decide)
    have hrO : Room 8 _ := hr.mono (by decide)
    have hr3 : Room 3 _ := hr.mono (by decide)
    have hrE : Room 5 _ := hr.mono (by decide)
    have hrE4 : Room 4 _ := hr.mono (by decide)
    have L := right_tail (cdv := cdv) (A := A) (outer := outer) (s := s) (H0 := H) (E := E) (f := f) hr T cf ins nf hsf hne hob GWd bWd kWd mWd GU bU kU mU GJ bJ kJ mJ GI bI kI mI mM cr cO GO GOr bOr sO' nO' GAn bAn sN' nN' GA bA mA GE bE sE nE
    have hsz : (1000 : Nat) ≤ sizeLine := by rw [sizeLine_eq]; decide
    have hks := kinds_ks hK
    refine ⟨_, (pss_cons (ps_asg (pe_lc (own := [("_law_turn", 9)]) (g := gName 9) (tt := tYes) rfl scR47.nd (pi_range1 (by rfl) T.rng (pa_cons pe_int pa_nil)) (blkOk_by (own := [("_law_turn", 9)]) (N := nR47) (sc := defScope sRight) (by decide +kernel)) (fun _ _ _ _ _ => pg_name (i := 9) scR47.nd rfl (Or.inl rfl)) (fun _ _ _ _ _ => pts_nil) (fun _ _ _ _ _ => (pe_call GWd (hr.mono (by decide)) (by rfl) mWd kWd bWd .nil pass0 (pa_cons (pv 0) (pa_cons (pv 1) pa_nil))))) (pg_lst rfl (pgs_cons (pg_name (i := 2) scR47.nd rfl (Or.inl rfl)) (pgs_cons (pg_name (i := 3) scR47.nd rfl (Or.inl rfl)) (pgs_cons (pg_name (i := 4) scR47.nd rfl (Or.inl rfl)) pgs_nil)))))
      (pss_cons (ps_if (pt_cmpR op_eq (pe_call GU (hr.mono (by decide)) (by rfl) mU kU bU .nil pass0 (pa_cons (pv 0) (pa_cons pe_int pa_nil))) pe_int (nomark _)) (pss_one (ps_set (i := 3) scR47.nd rfl (Or.inl rfl) (pe_call GJ (hr.mono (by decide)) (by rfl) mJ kJ bJ .nil pass0 (pa_cons (pv 2) (pa_cons (pv 3) (pa_cons pe_bl pa_nil)))))) pss_nil) L)), ?_⟩
    -- three plans
    refine ⟨3, rfl, by decide, by decide, fun L nL => ?_⟩
    have npL : p ≠ L := ne_of_none D.at_ nL
    have nqL : q ≠ L := ne_of_none hq nL
    refine lc_range (n := 3) (fun i G => ∃ (ds : List Addr) (pls : List (List (S × S))) (x' z' : Int), G L = some (.lst (ds.map V.ref)) ∧ ds.length = i ∧ pls.length = i ∧ (∀ j d pl, ds[j]? = some d → pls[j]? = some pl → G d = some (.dK (wd pl)) ∧ PG ks pl) ∧ Dice G p x' y z' ∧ But p H G)
      ⟨[], [], x, z, upd_same, rfl, rfl, fun (j : Nat) (d : Addr) (pl : List (S × S)) (e : ([] : List Addr)[j]? = some d) _ => absurd e (by rw [List.getElem?_nil]; exact fun z => by cases z), D.upd nL, But.of (same_upd nL)⟩ (fun i G hi hP => ⟨rfl, ?_⟩) (fun G hP => ?_)
    · obtain ⟨ds, pls, x', z', hL, l1, l2, hat, DG, bG⟩ := hP
      have hqG := bG _ _ npq.symm hq
      refine ⟨_, rfl, _, rfl, p, q, x', y, z', ks, rfl, DG, hqG, hK, fun d pl x2 z2 G2 D2 k2 nd hd hpl => ?_⟩
      have hL2 := k2 _ _ npL.symm hL
      refine ⟨_, hL2, by rw [List.length_map]; omega, ds ++ [d], pls ++ [pl], x2, z2, upd_same.trans (by rw [List.map_append]; rfl), by rw [List.length_append, List.length_singleton, l1], by rw [List.length_append, List.length_singleton, l2], fun j d' pl' e1 e2 => ?_, ⟨by rw [upd_ne npL]; exact D2.at_, D2.x0, D2.x1, D2.y0, D2.y1, D2.z0⟩, fun b o hb e => ?_⟩
      · have ne : ∀ {a : Addr} {u : List (Key × V)}, G2 a = some (.dK u) → a ≠ L := fun e => ne_of e hL2 (fun z => by cases z)
        by_cases hj : j < i
        · rw [List.getElem?_append_left (by omega)] at e1 e2
          obtain ⟨h1, h2⟩ := hat j d' pl' e1 e2
          have hdp : d' ≠ p := ne_of h1 DG.at_ (fun z => by cases z)
          have h3 := k2 _ _ hdp h1
          exact ⟨by rw [upd_ne (ne h3)]; exact h3, h2⟩
        · rw [List.getElem?_append_right (by omega)] at e1 e2
          have hj0 : j - ds.length = 0 := by
            have : j - ds.length < 1 := (List.getElem?_eq_some_iff.mp e1).1
            omega
          have hj1 : j - pls.length = 0 := by omega
          rw [hj0] at e1
          rw [hj1] at e2
          obtain rfl : d = d' := by simpa using e1
          obtain rfl : pl = pl' := by simpa using e2
          exact ⟨by rw [upd_ne (ne hd)]; exact hd, plan_pg hpl⟩
      · rw [upd_ne (ne_of_none e nL)]
        exact k2 b o hb (bG b o hb e)
    · obtain ⟨ds, pls, x', z', hL, l1, l2, hat, DG, bG⟩ := hP
      match ds, pls, l1, l2, hat, hL with
      | [d1, d2, d3], [p1, p2, p3], _, _, hat, hL =>
        obtain ⟨h1, g1⟩ := hat 0 d1 p1 rfl rfl
        obtain ⟨h2, g2⟩ := hat 1 d2 p2 rfl rfl
        obtain ⟨h3, g3⟩ := hat 2 d3 p3 rfl rfl
        clear hat
        refine ⟨L, _, rfl, SqL.of hL, rfl, _, _, rfl, _, _, rfl, _, _, rfl, rfl, ?_⟩
        refine ⟨_, rfl, p, x', y, z', 3, rfl, DG, by decide, by decide, fun r x2 z2 G2 r0 r1 D2 _ k2 => ⟨rfl, _, rfl, ?_⟩⟩
        have b2 : But p H G2 := bG.trans k2
        have nd : ∀ {a : Addr} {u : List (Key × V)}, G a = some (.dK u) → G2 a = some (.dK u) := fun e => k2 _ _ (ne_of e DG.at_ (fun z => by cases z)) e
        have i1 := nd h1
        have i2 := nd h2
        have i3 := nd h3
        refine ite2 (fun _ => ?_) (fun _ => ?_)
        · refine ⟨_, rfl, _, rfl, d1, d2, true, p1, p2, ks, rfl, hks, g1, g2, i1, i2, fun D1 G3 pl t3 _ hD1 gp _ => ?_⟩
          exact ⟨_, _, _, _, _, _, _, d1, D1, d3, p1, pl, p3, ks, rfl, hks, t3 _ _ i1, hD1, t3 _ _ i3, g1, gp, g3, fun H' s => k _ _ H' (D2.same (t3.trans s)) (b2.trans (But.of (t3.trans s)))⟩
        · exact ⟨_, _, _, _, _, _, _, d1, d2, d3, p1, p2, p3, ks, rfl, hks, i1, i2, i3, g1, g2, g3, fun H' s => k _ _ H' (D2.same s) (b2.trans (But.of s))⟩
end
end M46

/-! _law_refused: the word for the error of a call. -/
namespace M46
open PySem PySem.Spec PyProof.Rows L2 R0 K1 ClX StX LamX

abbrev sRefused : Stmt := top 58
section
variable {K : PySem.W.Frag} {H H' : Hp}
theorem ext_at {a : Addr} {o : HO} (s : ExtN H H') (e : H a = some o) (n : ∀ ps, o ≠ .tbl ps := by intro ps z; cases z) : H' a = some o := s a o e n
theorem tyx_ext {v : V} {t : Value} (h : TyX K H v t) (s : ExtN H H') : TyX K H' v t := by
  cases h with
  | base b =>
    refine .base ?_
    cases b with
    | non => exact .non
    | bl x => exact .bl x
    | int i => exact .int i
    | str x => exact .str x
    | flt x => exact .flt x
    | lst e => exact .lst (ext_at s e)
    | frz e => exact .frz (ext_at s e)
    | tup e => exact .tup (ext_at s e)
    | dK e => exact .dK (ext_at s e)
    | dT e => exact .dT (ext_at s e)
    | ins e cl ha hn htk hm => exact .ins (ext_at s e) cl ha hn htk hm
  | byt b => exact .byt b
  | set e => exact .set (ext_at s e)
  | kList e c => exact .kList e c
  | kTuple e c => exact .kTuple e c
  | kDict e c => exact .kDict e c
  | fTuple e => exact .fTuple (ext_at s e)
  | fDict e => exact .fDict (ext_at s e)
theorem ext_of (s : Same H H') : ExtN H H' := ExtN.of s
/-- the dice alone may change: the tables stand -/
theorem tabs_but {T : List (Addr × PySem.Str)} {p : Addr} {x y z : Int} (D : Dice H p x y z) (t : Tabs T H) (s : ∀ b o, b ≠ p → H b = some o → H' b = some o) : Tabs T H' := fun q hq => by
  obtain ⟨ps, h1, h2, h3⟩ := t q hq
  have hd := D.at_
  refine ⟨ps, s _ _ (ne_of h1 hd (by intro z; cases z)) h1, h2, fun pos cv hc => ?_⟩
  obtain ⟨c, e1, e2⟩ := h3 pos cv hc
  exact ⟨c, e1, s _ _ (ne_of e2 hd (by intro z; unfold CodeO at z; cases z)) e2⟩
theorem dice_ext {p : Addr} {x y z : Int} (D : Dice H p x y z) (s : ExtN H H') : Dice H' p x y z := ⟨ext_at s D.at_, D.x0, D.x1, D.y0, D.y1, D.z0⟩
/-- a list that is written: the tables stand -/
theorem tabs_upd {T : List (Addr × PySem.Str)} {l : Addr} {xs ys : List V} (t : Tabs T H) (h : H l = some (.lst xs)) : Tabs T (upd H l (.lst ys)) := fun q hq => by
  obtain ⟨ps, h1, h2, h3⟩ := t q hq
  refine ⟨ps, by rw [upd_ne (ne_of h1 h (by intro z; cases z))] <;> exact h1, h2, fun pos cv hc => ?_⟩
  obtain ⟨c, e1, e2⟩ := h3 pos cv hc
  exact ⟨c, e1, by rw [upd_ne (ne_of e2 h (by intro z; unfold CodeO at z; cases z))] <;> exact e2⟩
theorem mk_ext {C : Addr} {a : Addr} {ws : List (S × S)} {r : S} (m : MkAt C H a ws r) (s : ExtN H H') : MkAt C H' a ws r := by
  obtain ⟨dx, d, h1, h2⟩ := m.ex
  exact ⟨dx, d, ext_at s h1, ext_at s h2⟩
theorem mrk_ext {C : Addr} {a : Addr} {ks : List S} {g : S → S} (m : Mrk C H a ks g) (s : ExtN H H') : Mrk C H' a ks g := by
  obtain ⟨ws, h1, h⟩ := m
  exact ⟨ws, mk_ext h1 s, h⟩
end
/-- a def whose code object is known -/
theorem fn_ofC {P : Program} {w : World} {K : PySem.W.Frag} {mg : PySem.Str → Option Value} {base : Heap} {k : Nat} {f c : Addr} {x qual : PySem.Str} {st : Stmt} {fd : FuncData} {N ps : List PySem.Str} {sp : Sp} (F : Fun K x qual st f fd) (hc : fd.code = .ref c) (S : FnScope N ps (defScope st)) (len : ∀ vs H Q E, sp vs H Q E → vs.length = ps.length)
    (hbody : ∀ (A : Around) (outer : List Env) (s : Shared) (H : Hp) (vs : List V) (Q : VK) (E : XK), Room k (A.deeper (envOfC qual (defScope st) s.heap.objs.size f (.ref c))) → sp vs H Q E →
      ∃ t, PSs (cxOf CX0 P w K mg base N qual (defScope st) f (.ref c) A outer s H E).nox (defBody st) t ∧ t { nx := fun _ H' => Q .non H', rt := Q } (start N vs) H) : FnOk P w K mg base CX0 (k + 1) f fd ps sp := by
  obtain ⟨oc, od, kV, doc, pm, an, cdv, ct, osl, rfl, lk, hcd⟩ := F.ex
  obtain rfl : cdv = .ref c := hc
  refine ⟨len, fun A outer s H args us vs Q E hr e0 hb r hsp => ?_⟩
  refine run_ofS (N := N) (ps := ps) lk hcd S hr e0 hb r (len _ _ _ _ hsp) fun hr' => ?_
  obtain ⟨t, ht, hq⟩ := hbody A outer s H vs Q E hr' hsp
  exact ⟨t, ht.nox, hq⟩
/-- isinstance of the error that the suite holds, whatever its class -/
theorem call_isEX {X : Cx} {a : Addr} {oe : Obj} {cls : Value} {d : Option Addr} {pn : List (Addr × Obj)} (hz : Zc cls d oe) (hf : ∃ vs, oe.data = .fields vs) : CallR (X.suite a ((a, oe) :: pn)) (.builtin "isinstance") (fun xs H Q => ∃ D, cls = .ref D ∧ d = none ∧ ExcC X.K D ∧ rIsE X.K D a xs H Q) := by
  intro pins s σ H xs us Q I r h
  obtain ⟨D, rfl, rfl, C, h⟩ := h
  exact call_isE C hz hf pins s σ H xs us Q I r h
/-- what the top says of an error that is told by a word -/
structure Refd (K : PySem.W.Frag) (CL CIM CIN CIO C : Addr) (b1 b2 b3 : Bool) : Prop where
  x : ExcC K C
  l : PySem.W.exmOne K (.ref C) (.ref CL) = some true
  m : PySem.W.kitOne K (.ref C) (.ref CIM) = some b1
  n : PySem.W.kitOne K (.ref C) (.ref CIN) = some b2
  o : PySem.W.kitOne K (.ref C) (.ref CIO) = some b3
def wordOf (b1 b2 b3 : Bool) : S := if b1 then "marking" else if b2 then "name" else if b3 then "operation" else "else"
abbrev nRef : List S := ["_law_call", "e", "_law_kinds"]
/-- told, of a lambda's reading -/
def TRef (K : PySem.W.Frag) (CL CIM CIN CIO : Addr) : (XK → Hp → VK → Prop) → Hp → VK → Prop := fun tl H Q =>
  tl (fun cls d H' => ∃ C b1 b2 b3, cls = .ref C ∧ d = none ∧ Refd K CL CIM CIN CIO C b1 b2 b3 ∧ ∀ H'', Same H' H'' → Q (.str (wordOf b1 b2 b3)) H'') H (fun _ H' => Q (.str "returned") H')
theorem scRef : FnScope nRef ["_law_call"] (defScope sRefused) := ⟨rfl, rfl, rfl, by decide +kernel, rfl, by decide +kernel, by decide +kernel⟩
abbrev fourW : List S := ["marking", "name", "operation", "else"]
theorem idx_word (b1 b2 b3 : Bool) : ∃ j : Nat, ([.bl b1, .bl b2, .bl b3, .bl true] : List V)[j]? = some (.bl true) ∧ (∀ (m : Nat) (z : V), m < j → ([.bl b1, .bl b2, .bl b3, .bl true] : List V)[m]? = some z → eqV z (.bl true) = false) ∧ (fourW.map V.str)[j]? = some (.str (wordOf b1 b2 b3)) := by
  cases b1
  · cases b2
    · cases b3
      · refine ⟨3, rfl, fun m z hm hz => ?_, rfl⟩
        match m, hm, hz with
        | 0, _, hz => cases hz; rfl
        | 1, _, hz => cases hz; rfl
        | 2, _, hz => cases hz; rfl
        | m + 3, hm, _ => omega
      · refine ⟨2, rfl, fun m z hm hz => ?_, rfl⟩
        match m, hm, hz with
        | 0, _, hz => cases hz; rfl
        | 1, _, hz => cases hz; rfl
        | m + 2, hm, _ => omega
    · refine ⟨1, rfl, fun m z hm hz => ?_, rfl⟩
      match m, hm, hz with
      | 0, _, hz => cases hz; rfl
      | m + 1, hm, _ => omega
  · exact ⟨0, rfl, fun m z hm hz => absurd hm (Nat.not_lt_zero _), rfl⟩
theorem ref_gives {X : Cx} {q : PySem.Str} {g CL CIM CIN CIO : Addr} {cdg : Value} (mL : X.mg "LetterError" = some (.ref CL)) (mM : X.mg "InvalidMarking" = some (.ref CIM)) (mN : X.mg "InvalidName" = some (.ref CIN)) (mO : X.mg "InvalidOperation" = some (.ref CIO)) (mI : X.mg "isinstance" = none) :
    GivesTo X nRef "_law_refused" (defScope sRefused) g cdg (defBody sRefused) "_law_call" q (TRef X.K CL CIM CIN CIO) := by
  intro f c' s H Q tl act hc h
  have hsz : (1000 : Nat) ≤ sizeLine := by rw [sizeLine_eq]; decide
  refine ⟨_, pss_cons (ps_try_as (X := (cxOf C8.CX0 X.prog X.w X.K X.mg X.base nRef "_law_refused" (defScope sRefused) g cdg X.A X.stack s H C8.E0).nox) (c := .ref CL) (i := 1) (Wout := fun _ _ _ _ => False)
      (tb := fun W D σ H => ∃ Ech : XK, (∀ cls d σ' H', Ech cls d H' → W cls d σ' H') ∧ σ = L2.start nRef [.ref f] ∧ H c' = some (CodeO c' q) ∧ tl Ech H fun _ H' => D.nx σ H')
      (ts := fun a cls d D σ H => (∃ σ' : L2.St, σ = σ'.set 1 (some (.ref a))) ∧ ∃ C b1 b2 b3, cls = .ref C ∧ d = none ∧ Refd X.K CL CIM CIN CIO C b1 b2 b3 ∧ ∀ H'', Same H H'' → D.rt (.str (wordOf b1 b2 b3)) H'')
      rfl rfl scRef.nd rfl rfl ⟨by rfl, by decide, .inl mL⟩ LamX.takes0 (fun W pn xe tk _ => ?_)
      (fun a oe cls d pn hz hf => pss_conv (pss_cons (ps_set (i := 2) scRef.nd rfl (Or.inl rfl) (pe_lst (pa_cons (pe_callB (call_isEX hz hf) (by rfl) mI (by decide +kernel) (pa_cons (pv 1) (pa_cons (pe_glob (v := .ref CIM) rfl mM rfl) pa_nil))) (pa_cons (pe_callB (call_isEX hz hf) (by rfl) mI (by decide +kernel) (pa_cons (pv 1) (pa_cons (pe_glob (v := .ref CIN) rfl mN rfl) pa_nil))) (pa_cons (pe_callB (call_isEX hz hf) (by rfl) mI (by decide +kernel) (pa_cons (pv 1) (pa_cons (pe_glob (v := .ref CIO) rfl mO rfl) pa_nil))) (pa_cons pe_bl pa_nil))))))
        (pss_one (ps_ret (pe_ix ix_list (pe_lst (pa_cons pe_str (pa_cons pe_str (pa_cons pe_str (pa_cons pe_str pa_nil))))) (pe_bm PySem.F.plainAttrs_list PySem.F.slot_list_index PySem.F.type_list_index mt_index (pv 2) (pa_cons pe_bl pa_nil)) (fun _ _ => rfl))))) fun pins s σ H D I h => ?_)) (pss_one (ps_ret pe_str)), ?_⟩
  · refine ⟨fun pins s' σ H' D I h' => ?_⟩
    obtain ⟨Ech, hW, h1, h2, h3⟩ := h'
    exact (pss_one (ps_expr (act W pn xe Ech _ _ tk hW))).run pins s' σ H' D I ⟨by rw [h1] <;> rfl, h2, h3⟩
  · obtain ⟨⟨σ', e1⟩, C, b1, b2, b3, e2, e3, R, k⟩ := h
    have len : σ'.length = 3 := by have z := I.len; rw [e1, List.length_set] at z; exact z
    have ha : σ[1]? = some (some (.ref a)) := by rw [e1, List.getElem?_set_self (by omega)]
    have own : ∀ {x : Addr} {u : Value}, RelV (.ref x) u → u = Value.ref x := fun r => r
    refine ⟨_, ha, C, e2, e3, R.x, .ref CIM, .ref CIM, b1, rfl, fun u r => r, R.m, _, ha, C, e2, e3, R.x, .ref CIN, .ref CIN, b2, rfl, fun u r => r, R.n, _, ha, C, e2, e3, R.x, .ref CIO, .ref CIO, b3, rfl, fun u r => r, R.o, by show 4 ≤ sizeLine; omega, fun l nl => ?_⟩
    obtain ⟨j, j1, j2, j3⟩ := idx_word b1 b2 b3
    refine ⟨by show 4 ≤ sizeLine; omega, fun l2 nl2 => ?_⟩
    have hl := same_upd (o := .lst (fourW.map V.str)) nl2 _ _ (upd_same (H := H) (a := l) (o := .lst [.bl b1, .bl b2, .bl b3, .bl true]))
    have h2 : (σ.set 2 (some (.ref l)))[2]? = some (some (.ref l)) := by
      have z := I.len
      rw [List.getElem?_set_self (by rw [z]; show 2 < 3; decide)]
    exact ⟨.ref l, h2, .inl ⟨rfl, _, SqL.of hl⟩, l, _, .bl true, j, .bl true, rfl, rfl, SqL.of hl, rfl, rfl, j1, rfl, j2, l2, _, _, _, rfl, rfl, SqL.of upd_same, atI_nat j3, k _ ((same_upd nl).trans (same_upd nl2))⟩
  · refine ⟨_, fun cls d σ' H' e => ?_, rfl, hc, h⟩
    obtain ⟨C, b1, b2, b3, rfl, rfl, R, k⟩ := e
    exact ⟨true, R.l, fun _ a _ => ⟨⟨_, rfl⟩, C, b1, b2, b3, rfl, rfl, R, k⟩, fun z => nomatch z⟩
end M46

/-! enumerate of a tuple. -/
namespace K2
open PySem PySem.Spec PyProof.Rows L2 K0

/-- the enumerate's own object, just made over the iterator at i -/
abbrev enumObj (i : Addr) : Obj := { cls := .type "enumerate", data := .fields #[.none, .bool false, .ref i, rawInt 0, .none, .none] }
theorem enum_new1 {v : Value} {o : Obj} {G : Heap → Prop} (B : Begins v o G) : Meets (Builtin.«enumerate.__new__» ⟨[.type "enumerate", v], []⟩) (fun _ R s => G s.heap ∧
    R (.ok (.ret (.ref (s.heap.push o).objs.size))) { s with heap := (s.heap.push o).push (enumObj s.heap.objs.size) }) :=
  .of_wp fun prog w A R s h => by
    obtain ⟨hp, g, d, tk, os⟩ := s
    obtain ⟨g1, h⟩ := h
    have hsub := sub_enumerate
    have starts : ∀ {A' : Around} {E : Value → Shared → Prop} {Q : Value → Shared → Prop}, Q (.ref hp.objs.size) ⟨hp.push o, g, d, tk, os⟩ →
        wpAny (model prog w) A' (pyIter v) Q E ⟨hp, g, d, tk, os⟩ := fun q => B.iter prog w _ _ ⟨hp, g, d, tk, os⟩ _ g1 q
    wp_walk using starts
    refine wpAny_stack_any fun st => wpAny_pure ?_
    split
    · rename_i c _ _ _ _ _
      cases (c == Value.type "enumerate")
      all_goals
        wp_walk using starts
        exact ⟨_, rfl, h⟩
    · wp_walk using starts
      exact ⟨_, rfl, h⟩
section
variable {prog : Program} {w : World} {A : Around} {E : Value → Shared → Prop} {s : Shared}
theorem call_enum1 {v : Value} {o : Obj} {G : Heap → Prop} {Q : Value → Shared → Prop} (B : Begins v o G) (g1 : G s.heap)
    (h : ∀ h', IsEnum h' (s.heap.objs.size + 1) s.heap.objs.size 0 .none → h'.get? s.heap.objs.size = some o → (∀ b q, s.heap.get? b = some q → h'.get? b = some q) →
      Q (.ref (s.heap.objs.size + 1)) { s with heap := h' }) : wpAny (model prog w) A (call (.type "enumerate") [v]) Q E s := by
  refine callType_new F.called_enumerate (by decide) (F.typeCall_enumerate_1 _) (F.newCall_enumerate_1 _) (fun obj => F.args_object_init_2 obj _) F.entry_enumerate_new (enum_new1 B) ⟨g1, ?_⟩
  have hz : (s.heap.push o).objs.size = s.heap.objs.size + 1 := Heap.size_push ..
  show _ ∧ _
  have he : IsEnum ((s.heap.push o).push (enumObj s.heap.objs.size)) (s.heap.objs.size + 1) s.heap.objs.size 0 .none := by
    have := Heap.get?_push_size (s.heap.push o) (o := enumObj s.heap.objs.size) rfl
    rw [hz] at this
    exact this
  rw [hz]
  exact ⟨⟨_, he, rfl⟩, h _ he (Heap.get?_push_of_some _ (Heap.get?_push_size _ B.free)) fun b q x => Heap.get?_push_of_some _ (Heap.get?_push_of_some _ x)⟩
theorem enum_endT {e it a : Addr} {i : Nat} {items : Array Value} {old : Value} {Q : Option Value → Shared → Prop} (hd : A.in1.handled = none) (he : IsEnum s.heap e it ((i : Nat) : Int) old) (hit : s.heap.IsTupleIter it a i)
    (p : s.heap.IsTuple a items) (hx : items[i]? = none) (hQ : ∀ h', Heap.ExtBut it s.heap h' → Q none { s with heap := h' }) : wpAny (model prog w) A (pyNext (.ref e)) Q E s := by
  have ty : s.TypeIs (.ref e) "enumerate" := ⟨_, he, rfl⟩
  unfold pyNext
  refine wpAny_bind (wpAny_attempt (wpAny_callSpecial?_slot (name := Str.ofString "__next__") ty F.slot_enumerate_next
    (wpAny_call_entry F.slot_enumerate_next ty F.entry_enumerate_next ?_ (F.args_enumerate_next_1 _))))
  show wpAny _ _ (field (.ref e) 2 >>= _) _ _ _
  refine wpAny_bind (wpAny_field he rfl (x := .ref it) rfl (wpAny_bind (wpAny_nextOf_tuple_end hd hit p hx fun h' x k q => ?_)))
  obtain ⟨o, ho, hc⟩ := q
  exact wpAny_bind (wpAny_isInstance (T := "StopIteration") (b := true) ⟨o, ho, hc⟩ isSubtype_stop (wpAny_pure (hQ _ k)))
end
/-- the tuple at a, each item in a new pair with its place -/
def Itet (K : PySem.W.Frag) (a : Addr) : It where
  go := fun i G => ∃ (xs : List V) (x : V), SqT K G a xs ∧ xs[i]? = some x
  yld := fun i G v G' => ∃ T x, v = .ref T ∧ G T = none ∧ G' = upd G T (.tup [.int (i : Nat), x]) ∧ ∀ xs, SqT K G a xs → xs[i]? = some x
  stop := fun i G => ∃ xs : List V, SqT K G a xs ∧ xs.length ≤ i
theorem turn_enumT {P : Program} {w : World} {K : PySem.W.Frag} {elts : List Expr} {kk : Nat} {tpos : Pos} (a e it : Addr) (hai : a ≠ it) (hae : a ≠ e) :
    Turn P w K (.Tuple elts kk tpos) (Itet K a) [e, it] e (fun i h => (∃ old, IsEnum h e it ((i : Nat) : Int) old) ∧ h.IsTupleIter it a i ∧ e ≠ it) where
  mem := by simp
  obj := fun i h st b hb => by
    obtain ⟨⟨old, he⟩, ⟨o, ho, hc, hd⟩, _⟩ := st
    have z : b = e ∨ b = it := by simpa using hb
    rcases z with z | z
    · subst z; exact ⟨_, he, fun v q => nomatch q⟩
    · subst z; exact ⟨o, ho, fun v q => by rw [hd] at q; cases q⟩
  keep := fun i h h' st k =>
    let ⟨⟨old, he⟩, hi, hne⟩ := st
    ⟨⟨old, k e (by simp) _ he⟩, hi.at fun o q => k it (by simp) o q, hne⟩
  item := by
    intro X hP hw hK hc i pins s σ G E I hf st hg
    subst hP hw hK
    obtain ⟨⟨old, he⟩, hit, hne⟩ := st
    obtain ⟨xs, x, hq, hx⟩ := hg
    obtain ⟨its, rv, p, hz⟩ := I.tuple hq
    obtain ⟨u, hu, ru⟩ := rv.get hx
    have hel : e < s.heap.objs.size := Heap.lt_size he
    have hil : it < s.heap.objs.size := by obtain ⟨_, q, _⟩ := hit; exact Heap.lt_size q
    have hd1 : X.A.in1.handled = none := I.ok.hd hc
    refine wpAny_pyNext_enum_itemC (Draws.tuple (A := X.A.in1) hd1 it a hai its.toArray) he ⟨hit, p⟩ (by simpa using (List.getElem?_eq_some_iff.mp hu).1) hne (by simp [hne, Ne.symm hae])
      fun x' h' tk hx' ho hit' hT hsz hk => ?_
    have ex : x' = u := by
      have q1 : its[i]? = some x' := by simpa using hx'
      rw [hu] at q1
      injection q1 with q1
      exact q1.symm
    subst ex
    refine ⟨_, rfl, wpAny_letOwnedTupleGo_enum (s := { s with heap := h', toks := tk + 1 }) ho fun h'' he' sb => ?_⟩
    have hT2 : h''.get? s.heap.objs.size = some { cls := .type "tuple", data := .seq #[.int i tk, x'] } := (sb.2 _ (Nat.ne_of_gt hel)).trans hT
    have new : ObjOk X.prog X.w (upd G s.heap.objs.size (.tup [.int (i : Nat), x])) h'' s.heap.objs.size (.tup [.int (i : Nat), x]) := by
      refine ⟨(by show 2 ≤ sizeLine; decide), [.int i tk, x'], .cons ⟨_, rfl⟩ (.cons ru .nil), ?_⟩
      exact ⟨_, hT2, rfl, _, rfl⟩
    have I1 : Inv X pins σ (upd G s.heap.objs.size (.tup [.int (i : Nat), x])) { s with heap := h'', toks := tk + 1 } := by
      refine I.turnedNew (ch := [e, it]) (fun b ob hb q => ?_) hf (Nat.le_refl _) new
      have n1 : b ≠ e := fun z => hb (by simp [z])
      have n2 : b ≠ it := fun z => hb (by simp [z])
      exact (sb.2 b n1).trans (hk b ob n1 n2 q)
    refine ⟨.ref s.heap.objs.size, _, I1, rfl, ⟨_, x, rfl, I.hok.fresh (Nat.le_refl _), rfl, fun ys hy => ?_⟩, ⟨⟨x', ?_⟩, ?_, hne⟩, fun b hb => ?_⟩
    · rw [I.tuple_inj hy hq]
      exact hx
    · rw [show ((i + 1 : Nat) : Int) = (i : Int) + 1 by omega]
      exact he'
    · exact hit'.1.at fun o q => (sb.2 it (Ne.symm hne)).trans q
    · have z : b = e ∨ b = it := by simpa using hb
      have hb' : b < s.heap.objs.size := by
        rcases z with z | z
        · subst z; exact hel
        · subst z; exact hil
      rw [upd_ne (Nat.ne_of_lt hb')]
      exact (hf b hb).1
  done := by
    intro X hP hw hK hc i pins s σ G E I hf st hg
    subst hP hw hK
    obtain ⟨⟨old, he⟩, hit, hne⟩ := st
    obtain ⟨xs, hq, hx⟩ := hg
    obtain ⟨its, rv, p, hz⟩ := I.tuple hq
    obtain ⟨f0, f1, f2, f3, f4, f5⟩ := hf it (by simp)
    have hl := rv.length
    have hd1 : X.A.in1.handled = none := I.ok.hd hc
    exact enum_endT hd1 he hit p (by simp; omega) fun h' eb => ⟨rfl, I.turned (t' := s.toks) (fun b o hb q => eb b o hb q) f0 f1 f3 f4 f5⟩
  self := fun A i s Q E st h => let ⟨⟨_, he⟩, _⟩ := st; wpAny_pyIter_enum he h
def iEnumT (K : PySem.W.Frag) (ta : TA) : TI := fun σ G R => ta σ G fun vs G1 => ∃ a xs, vs = [.ref a] ∧ SqT K G1 a xs ∧ R (Itet K a) G1
theorem pi_enumT {X : Cx} {e : Expr} {ta : TA} {p pos tpos : Pos} {elts : List Expr} {kk : Nat} (hg : Gl X "enumerate") (hm : X.mg "enumerate" = none) (ha : PA X [e] ta)
    (hs : starEach [e] X.env = [(false, eval e X.env)] := by rfl) : PI X (.Tuple elts kk tpos) (.Call (.Name "enumerate" p) [e] [] pos) (iEnumT X.K ta) := by
  refine ⟨fun pins s σ G R I h => ?_⟩
  refine Call_ (ld_blt I hg hm boot_enumerate (PyProof.Rows.callWith_type1 (thn (ha.run pos pins s σ G _ I h) fun us s1 q1 => ?_) hs rfl))
  obtain ⟨vs, G1, I1, r1, a, xs, ex, hq, q⟩ := q1
  subst ex
  cases r1 with
  | cons r rr =>
    cases rr
    cases r
    obtain ⟨its, rv, p', hz⟩ := I1.tuple hq
    have al : a < s1.heap.objs.size := by
      obtain ⟨o, ho, _⟩ := p'
      exact Heap.lt_size ho
    refine call_enum1 (begins_tuple a its.toArray) p' fun h' he hit hk => wpAny_pyIter_enum he ?_
    have I2 : Inv X pins σ G1 { s1 with heap := h' } := I1.kept (t' := s1.toks) hk
    refine ⟨s1.heap.objs.size + 1, [s1.heap.objs.size + 1, s1.heap.objs.size], _, _, G1, rfl, I2,
      turn_enumT a (s1.heap.objs.size + 1) s1.heap.objs.size (Nat.ne_of_lt al) (Nat.ne_of_lt (Nat.lt_succ_of_lt al)), ⟨⟨.none, he⟩, ⟨_, hit, rfl, rfl⟩, Nat.succ_ne_self _⟩, fun b hb => ?_, q⟩
    have z : b = s1.heap.objs.size + 1 ∨ b = s1.heap.objs.size := by simpa using hb
    have hle : s1.heap.objs.size ≤ b := by
      rcases z with z | z
      · rw [z]; exact Nat.le_add_right _ _
      · rw [z]; exact Nat.le_refl _
    exact I1.fpOk hle (I1.hok.fresh hle)
end K2

/-! Empty sets; x in (); a def with two keyword-only names that have defaults and a dict of the rest. -/
namespace R0
open PySem PySem.Spec PyProof.Rows L2 StX

section
variable {X : Cx}
/-- set(()) -/
theorem cr_setT0 (hc : X.calm = true) : CallR X (.type "set") (fun xs H Q => ∃ t, xs = [.ref t] ∧ SqT X.K H t [] ∧ ∀ a, H a = none → Q (.ref a) (upd H a (SetO X.w a (fun _ => false) 0))) := by
  intro pins s σ H xs us Q I r h
  obtain ⟨t, rfl, ht, q⟩ := h
  rw [Vals.ref1 r]
  obtain ⟨its, rv, p, hz⟩ := I.tuple ht
  cases rv
  refine call_set_tupI (P := X.prog) [] (I.ok.hd hc) p .nil (by decide) fun h' tk c R hle k => ?_
  obtain rfl : c = 0 := Nat.le_zero.mp hle
  have R' : SetR X.w h' s.heap.objs.size (fun _ => false) 0 := R
  exact ⟨.ref s.heap.objs.size, upd H s.heap.objs.size (SetO X.w s.heap.objs.size (fun _ => false) 0), I.laid (t' := tk) k (Nat.le_refl _) (setO_new R'), rfl, q _ (I.hok.fresh (Nat.le_refl _))⟩
theorem setB_R {w : World} {h : Heap} {a : Addr} {S : Bool → Bool} (R : PpSet.SetB w h a S 0) : SetR w h a (fun _ => false) 0 := by
  obtain ⟨o, es, ep, t, ho, hx, hd, g, nd, m, sb, f, n, q⟩ := R
  have e : es.toList = [] := by
    have : es.toList.length = 0 := by rw [Array.length_toList]; exact n
    exact List.eq_nil_of_length_eq_zero this
  refine ⟨o, es, ep, t, ho, hx, hd, fun x hx => ?_, ?_, fun k => ?_, sb, f, n, q⟩
  · rw [e] at hx; cases hx
  · rw [e]; exact .nil
  · rw [e]; simp
/-- sorted of an empty set of truth values -/
theorem cr_sortedB0 (hc : X.calm = true) : CallR X (.builtin "sorted") (fun vs H Q => ∃ a S, vs = [V.ref a] ∧ H a = some (PpSet.SetBO X.w a S 0) ∧ ∀ p, H p = none → Q (.ref p) (upd H p (.lst []))) := by
  intro pins s σ H vs us Q I r h
  obtain ⟨a, S, rfl, ha, q⟩ := h
  have R := setB_R (PpSet.setBO_get I ha)
  rw [Vals.ref1 r]
  refine sorted_set R (I.ok.hd hc) (by decide) fun s' p out c ns k g o hp hg hi hs hm hl => ?_
  obtain rfl : ns = [] := List.eq_nil_of_length_eq_zero hl
  have hn : H p = none := I.hok.fresh hp
  have J : Inv X pins σ (upd H p (.lst (([] : List Int).map V.int))) { s with heap := s'.heap, gens := s'.gens, drawn := s'.drawn, toks := s'.toks } :=
    I.call (ch := []) (Un.laid k hp hn) (I.hok.laid k hp ⟨Nat.zero_le _, out.toList, c, vals_of_ints hi, hg⟩) (by rw [g]; exact I.bare) (fun _ z => nomatch z)
  have e : s' = { s with heap := s'.heap, gens := s'.gens, drawn := s'.drawn, toks := s'.toks } := by
    cases s'
    cases s
    cases o
    rfl
  rw [e]
  exact ⟨.ref p, _, J, rfl, q p hn⟩
/-- x in (), whatever x -/
def rInT0 (K : PySem.W.Frag) : R2 := fun _ y H Q => ∃ t, y = .ref t ∧ SqT K H t [] ∧ Q (.bl false) H
theorem op_inT0 : OpR X (compareOp .In) (rInT0 X.K) := by
  intro pins s σ H x y v u Q I rx ry h
  obtain ⟨t, rfl, ht, q⟩ := h
  obtain rfl : u = Value.ref t := ry
  obtain ⟨its, rv, p, hz⟩ := I.tuple ht
  cases rv
  exact SeqAt.in_tupleAt (fun _ => false) p (fun y hy => by simp at hy) (fin_bl I q (by simp))
end
section
variable {prog : Program} {w : World} {A : Around} {E : Value → Shared → Prop} {s : Shared}
variable {x qual : PySem.Str} {params : Arguments} {body : List Stmt} {scope : Scope} {D : Addr} {doc pm cdv ct : Value} {an : Option Addr} {sf o1 o2 : PySem.Str} {more : Arg}
theorem bind_kw2 {u d1 d2 : Value} {kw : List (PySem.Str × Value)} {Q : List (PySem.Str × Value) → Shared → Prop} (h1 : params.posonlyargs.map (·.arg) = []) (h2 : params.args.map (·.arg) = [sf]) (h3 : params.kwonlyargs.map (·.arg) = [o1, o2]) (h4 : params.vararg = none) (h5 : params.kwarg = some more)
    (s1 : sf ≠ o1) (s2 : sf ≠ o2) (s12 : o1 ≠ o2) (hsf : sf ∉ kw.map (·.1)) (ho1 : o1 ∉ kw.map (·.1)) (ho2 : o2 ∉ kw.map (·.1)) (hn : (kw.map (·.1)).Nodup) (hz : kw.length ≤ 1000) (hd1 : PySem.W.Looks (model prog w) s.heap (nsGet D o1) (some d1)) (hd2 : PySem.W.Looks (model prog w) s.heap (nsGet D o2) (some d2))
    (h : ∀ h', h'.DictOf (mixKind prog w) s.heap.objs.size (nmK kw) → Heap.SameBut s.heap.objs.size (s.heap.push { cls := .type "dict", data := .dict #[] }) h' → ∀ t, Q [(sf, u), (o1, d1), (o2, d2), (more.arg, .ref s.heap.objs.size)] { s with heap := h', toks := t }) :
    wpAny (model prog w) A (bindArgs (PySem.W.fnOf x qual params body scope .none (.ref D) doc pm an cdv ct) ⟨[u], kw⟩) Q E s := by
  unfold bindArgs
  dsimp only [PySem.W.fnOf]
  rw [h1, h2, h3, h4, h5]
  rw [sort_kw (fun k => [sf].contains k || [o1, o2].contains k) _ (fun q sl ex hq hl => by
    dsimp only at hq ⊢
    rw [if_pos hq, hl, if_neg (by simp)]) (fun q sl ex hq => by
    dsimp only at hq ⊢
    rw [if_neg (by rw [hq]; exact Bool.false_ne_true), if_pos (show (some more).isSome = true from rfl)]) kw _ _ (by
    show ([sf] ++ kw.map (·.1)).Nodup
    exact List.nodup_cons.mpr ⟨hsf, hn⟩)]
  have ef : ∀ q ∈ kw, ([sf].contains q.1 || [o1, o2].contains q.1) = false := fun q hq => by
    have n0 : q.1 ≠ sf := fun e => hsf (e ▸ List.mem_map_of_mem hq)
    have n1 : q.1 ≠ o1 := fun e => ho1 (e ▸ List.mem_map_of_mem hq)
    have n2 : q.1 ≠ o2 := fun e => ho2 (e ▸ List.mem_map_of_mem hq)
    simp [n0, n1, n2]
  have eF : (kw.filter fun x => [sf].contains x.1 || [o1, o2].contains x.1) = [] := List.filter_eq_nil_iff.mpr fun q hq => by rw [ef q hq]; exact Bool.false_ne_true
  have eG : (kw.filter fun x => !([sf].contains x.1 || [o1, o2].contains x.1)) = kw := List.filter_eq_self.mpr fun q hq => by rw [ef q hq]; rfl
  rw [eF, eG]
  clear ef eF eG
  rw [pure_bind]
  refine wpAny_bind (wpAny_pure ?_)
  have eS : ([] ++ [sf]).zip [u] ++ ([] : List (PySem.Str × Value)) = [(sf, u)] := rfl
  rw [eS]
  rw [if_neg (by simp)]
  rw [if_neg (by simp)]
  refine wpAny_bind (wpAny_of_eq (show _ = pure [(sf, u)] from rfl) ?_)
  have fin : ∀ (S' : List (PySem.Str × Value)) (s' : Shared), S'.lookup sf = some u → S'.lookup o1 = some d1 → S'.lookup o2 = some d2 → s' = s → wpAny (model prog w) A
      (do let d ← alloc { cls := Value.type "dict", data := Data.dict #[] }
          forIn kw PUnit.unit fun x _ => (nsSet d x.1 x.2 >>= fun _ => pure (ForInStep.yield PUnit.unit))
          pure (([] ++ [sf] ++ [o1, o2]).filterMap (fun n => (S'.lookup n).map fun x => (n, x)) ++ [(more.arg, Value.ref d)])) Q E s' := by
    rintro S' s' l1 l2 l3 rfl
    refine wpAny_bind (wpAny_alloc ?_)
    refine wpAny_bind (ns_fill kw _ [] (Heap.DictOf.new s'.heap) ?_ ?_ fun h' hd' hs' => wpAny_pure ?_)
    · show ((nmK kw).map (·.1)).Nodup
      have e : (nmK kw).map (·.1) = (kw.map (·.1)).map (fun n => (Sum.inr n : Key)) := by unfold nmK; rw [List.map_map, List.map_map]; rfl
      rw [e]
      exact List.Pairwise.map _ (fun a b h e => h (Sum.inr.inj e)) hn
    · rw [List.length_nil, sizeLine_eq]; omega
    · have e : ([] ++ [sf] ++ [o1, o2]).filterMap (fun n => (S'.lookup n).map fun x => (n, x)) = [(sf, u), (o1, d1), (o2, d2)] := by
        simp [l1, l2, l3]
      rw [e]
      exact h h' hd' hs' _
  have hgz : ¬ kw.length > sizeLine + 1 := by rw [sizeLine_eq]; omega
  have b1 : (o1 == sf) = false := beq_eq_false_iff_ne.mpr (Ne.symm s1)
  have b2 : (o2 == sf) = false := beq_eq_false_iff_ne.mpr (Ne.symm s2)
  have b3 : (o2 == o1) = false := beq_eq_false_iff_ne.mpr (Ne.symm s12)
  have lo1 : ([(sf, u)] : List (PySem.Str × Value)).lookup o1 = none := by rw [List.lookup_cons, b1]; rfl
  have lo2 : ([(sf, u)] ++ [(o1, d1)] : List (PySem.Str × Value)).lookup o2 = none := by
    show ([(sf, u), (o1, d1)] : List (PySem.Str × Value)).lookup o2 = none
    rw [List.lookup_cons, b2, List.lookup_cons, b3]
    rfl
  rw [List.forIn_cons]
  dsimp only
  rw [lo1, if_pos (show (none : Option Value).isNone = true from rfl)]
  refine wpAny_bind (wpAny_bind (wpAny_bind (hd1.here (wpAny_pure ?_))))
  dsimp only
  rw [List.forIn_cons]
  dsimp only
  rw [lo2, if_pos (show (none : Option Value).isNone = true from rfl)]
  refine wpAny_bind (wpAny_bind (hd2.here (wpAny_pure ?_)))
  dsimp only
  rw [List.forIn_nil]
  refine wpAny_pure ?_
  dsimp only
  rw [if_neg (by simp)]
  dsimp only [List.nil_append]
  rw [if_neg hgz]
  refine fin ([(sf, u)] ++ [(o1, d1)] ++ [(o2, d2)]) s ?_ ?_ ?_ rfl
  · show ((sf, u) :: _).lookup sf = some u
    exact List.lookup_cons_self
  · show ([(sf, u), (o1, d1), (o2, d2)] : List (PySem.Str × Value)).lookup o1 = some d1
    rw [List.lookup_cons, b1]
    exact List.lookup_cons_self
  · show ([(sf, u), (o1, d1), (o2, d2)] : List (PySem.Str × Value)).lookup o2 = some d2
    rw [List.lookup_cons, b2, List.lookup_cons, b3]
    exact List.lookup_cons_self
end
section
variable {P : Program} {w : World} {K : PySem.W.Frag} {mg : PySem.Str → Option Value} {base : Heap} {x qual : PySem.Str} {params : Arguments} {body : List Stmt} {scope : Scope} {f : Addr} {fd : FuncData} {CX : CXT} {N : List PySem.Str} {k : Nat} {sp : Sp} {sf o1 o2 : PySem.Str} {v1 v2 : V} {more : Arg}
/-- self, the two defaults, a new dict of the keywords -/
def spW2 (sf o1 o2 : PySem.Str) (v1 v2 : V) (sp : Sp) : V → List (PySem.Str × V) → Hp → VK → XK → Prop := fun v kv H Q E => sf ∉ kv.map (·.1) ∧ o1 ∉ kv.map (·.1) ∧ o2 ∉ kv.map (·.1) ∧ (kv.map (·.1)).Nodup ∧ kv.length ≤ 1000 ∧
  ∀ d, H d = none → sp [v, v1, v2, .ref d] (upd H d (.dK (nmK kv))) Q E
theorem fn_kw2 (F : FunD K x qual params body scope [] [(o1, v1), (o2, v2)] f fd) (S : FnScope N [sf, o1, o2, more.arg] scope) (h1 : params.posonlyargs.map (·.arg) = []) (h2 : params.args.map (·.arg) = [sf]) (h3 : params.kwonlyargs.map (·.arg) = [o1, o2]) (h4 : params.vararg = none) (h5 : params.kwarg = some more) (s1 : sf ≠ o1) (s2 : sf ≠ o2) (s12 : o1 ≠ o2) (hCX : CXUp CX)
    (hbody : ∀ (cdv : Value) (A : Around) (outer : List Env) (s : Shared) (H : Hp) (vs : List V) (Q : VK) (E : XK), Room k (A.deeper (envOfC qual scope s.heap.objs.size f cdv)) → sp vs H Q E →
      ∃ t, PSs (cxOf CX P w K mg base N qual scope f cdv A outer s H E) body t ∧ t { nx := fun _ H' => Q .non H', rt := Q } (start N vs) H) : FnW P w K mg base CX (k + 1) f (spW2 sf o1 o2 v1 v2 sp) := by
  intro A outer s H u v kw kv Q E hr e0 ru rk ⟨hs1, ho1, ho2, hs2, hs3, hs4⟩
  obtain ⟨oc, od, dV, kV, doc, pm, an, cdv, ct, osl, rfl, lk, hcd, hD, hK⟩ := F.ex
  obtain rfl : dV = .none := hD.elim (fun z => z.2) fun z => absurd rfl z.1
  obtain ⟨D, rfl, hq⟩ : ∃ D : Addr, kV = .ref D ∧ ∀ q ∈ [(o1, v1), (o2, v2)], ∃ u, PySem.W.nsIn K D q.1 = some (some u) ∧ RelV q.2 u := hK.elim (fun z => nomatch z) id
  obtain ⟨u1, hd1, r1⟩ := hq (o1, v1) (List.mem_cons_self)
  obtain ⟨u2, hd2, r2⟩ := hq (o2, v2) (List.mem_cons_of_mem _ (List.mem_singleton.mpr rfl))
  have KX : K.In s.heap := e0.mod.kin.keeps fun b o e => (e0.bs b o e).1
  have hn : H s.heap.objs.size = none := e0.hok.fresh (Nat.le_refl _)
  have hl : kv.length = kw.length := Paired.length rk
  have ek := kv_names rk
  refine run_bnd lk hcd S hr e0 (G := fun vs H2 => vs = [v, v1, v2, V.ref s.heap.objs.size] ∧ H2 = upd H s.heap.objs.size (.dK (nmK kv))) (fun A' Ex Q' h => ?_) fun s2 H2 vs ⟨e1, e2⟩ hr' => ?_
  · refine bind_kw2 (d1 := u1) (d2 := u2) h1 h2 h3 h4 h5 s1 s2 s12 (by rw [← ek]; exact hs1) (by rw [← ek]; exact ho1) (by rw [← ek]; exact ho2) (by rw [← ek]; exact hs2) (by omega) (PySem.W.looks_nsIn KX hd1) (PySem.W.looks_nsIn KX hd2) fun h' hd' hs' t => ?_
    have kp : ∀ b x, s.heap.get? b = some x → h'.get? b = some x := fun b x e => (hs'.2 b (Nat.ne_of_lt (Heap.lt_size e))).trans (Heap.get?_push_of_some _ e)
    have hz : (nmK kv).length ≤ sizeLine := by
      unfold nmK
      rw [List.length_map, sizeLine_eq]
      omega
    have hdn : (s.heap.objs.size == sysModules) = false := beq_eq_false_iff_ne.mpr (Ne.symm (Nat.ne_of_lt (env0_big e0)))
    have new : ObjOk P w (upd H s.heap.objs.size (.dK (nmK kv))) h' s.heap.objs.size (.dK (nmK kv)) := dk_new hz hdn (kv_nmK rk) hd'
    have hsz : s.heap.objs.size ≤ h'.objs.size := Nat.le_of_lt new.lt
    have e2 := env0_grown (t := t) e0 (Nat.le_refl _) kp new hsz
    have un : Un (frs outer) [] H (upd H s.heap.objs.size (.dK (nmK kv))) s.heap h' := Un.laid kp (Nat.le_refl _) hn
    refine h { s with heap := h', toks := t } _ [v, v1, v2, V.ref s.heap.objs.size] [u, u1, u2, Value.ref s.heap.objs.size] e2 un rfl (fun e s' => hCX outer s H _ _ E e s' un kp rfl) (.cons ru (.cons r1 (.cons r2 (.cons rfl .nil)))) rfl ⟨rfl, rfl⟩
  · subst e1 e2
    exact hbody cdv A outer s2 _ _ Q E hr' (hs4 _ hn)
end
end R0

/-! Rule(Pattern(x=None)) (made by gJV.py). -/
namespace M46
open PySem PySem.Spec PyProof.Rows L2 R0 K1 ClX StX LamX K2

abbrev sDiff : Stmt := top 3
abbrev sKK : Stmt := top 31
abbrev sKL : Stmt := top 32
abbrev sKC : Stmt := top 33
abbrev sKG : Stmt := top 34
abbrev sMany : Stmt := top 35
abbrev sParts : Stmt := top 36
abbrev sPartsOf : Stmt := top 42
abbrev sPInit : Stmt := inClass (top 43) 0
abbrev sADP : Stmt := top 45
abbrev sRInit : Stmt := inClass (top 47) 0
structure Bare2 (mg : PySem.Str → Option Value) : Prop where
  set : mg "set" = none
  enm : mg "enumerate" = none
structure Cst2 (mg : PySem.Str → Option Value) : Prop where
  pl : ∃ t, mg "MAX_PATTERN_LETTERS" = some (.int 5 t)
  ar : ∃ t, mg "MAX_ARRANGEMENTS" = some (.int 600 t)
  ru : ∃ t, mg "MAX_RULE" = some (.int 6 t)
def kvX : List (S × V) := [("x", .non)]
def spDiff0 : Sp := fun vs H Q _ => ∃ l, vs = [.ref l] ∧ H l = some (.lst []) ∧ Q (.bl true) H
def spKK : Sp := fun vs H Q _ => vs = [.non] ∧ Q .non H
def spKL : Sp := fun vs H Q _ => ∃ d, vs = [.ref d] ∧ H d = some (.dK (nmK kvX)) ∧ ∀ e H', Same H H' → H' e = some (.dK (nmK kvX)) → Q (.ref e) H'
def spKC (K : PySem.W.Frag) : Sp := fun vs H Q _ => ∃ v t, vs = [v, .ref t] ∧ SqT K H t [] ∧ ∀ e H', Same H H' → SqT K H' e [] → Q (.ref e) H'
def spMany (K : PySem.W.Frag) : Sp := fun vs H Q _ => ∃ t, vs = [.ref t] ∧ SqT K H t [] ∧ Q (.int 1) H
def spParts (K : PySem.W.Frag) : Sp := fun vs H Q _ => ∃ d t1 t2, vs = [.ref d, .ref t1, .ref t2] ∧ H d = some (.dK (nmK kvX)) ∧ SqT K H t1 [] ∧ SqT K H t2 [] ∧ ∀ p e u1 u2 H', Same H H' → H' p = some (.tup [.ref e, .ref u1, .ref u2]) → SqT K H' u2 [] → Q (.ref p) H'
def spPInit (K : PySem.W.Frag) (CP : Addr) : Sp := fun vs H Q _ => ∃ x dx t1 t2 d, vs = [.ref x, .ref t1, .ref t2, .ref d] ∧ H x = some (.ins CP dx []) ∧ H d = some (.dK (nmK kvX)) ∧ SqT K H t1 [] ∧ SqT K H t2 [] ∧ ∀ H' fs, (∀ b u, b ≠ x → H b = some u → H' b = some u) → H' x = some (.ins CP dx fs) → Q .non H'
def spADP (K : PySem.W.Frag) (CP : Addr) : Sp := fun vs H Q _ => ∃ t a dx fs, vs = [.ref t] ∧ SqT K H t [.ref a] ∧ H a = some (.ins CP dx fs) ∧ ∀ H', Same H H' → Q (.bl true) H'
def spRInit (K : PySem.W.Frag) (CP CR : Addr) : Sp := fun vs H Q _ => ∃ x dx t a dy fs, vs = [.ref x, .ref t] ∧ H x = some (.ins CR dx []) ∧ H t = some (.tup [.ref a]) ∧ H a = some (.ins CP dy fs) ∧ ∀ H' gs, (∀ b u, b ≠ x → H b = some u → H' b = some u) → H' x = some (.ins CR dx gs) → Q .non H'
theorem sqT_s {K : PySem.W.Frag} {H H' : Hp} {a : Addr} {xs : List V} (h : SqT K H a xs) (s : Same H H') : SqT K H' a xs := sqT_kl h (KeepL.of s)
def tNoI : TI := fun _ _ _ => False
theorem pi_never {X : Cx} {tg e : Expr} : PI X tg e tNoI := ⟨fun _ _ _ _ _ _ h => h.elim⟩
theorem tyx_t {K : PySem.W.Frag} {H : Hp} {a : Addr} {xs : List V} (h : SqT K H a xs) : TyX K H (.ref a) (.type "tuple") := by
  rcases h with (h | ⟨o, h⟩) | ⟨o, it, n, e, c, _⟩
  · exact .base (.tup h)
  · exact .fTuple h
  · exact .kTuple e c
section
variable {P : Program} {w : World} {K : PySem.W.Frag} {mg : PySem.Str → Option Value} {base : Heap} {CP CR : Addr}
theorem scDiff : FnScope ["values"] ["values"] (defScope sDiff) := ⟨rfl, rfl, rfl, by decide +kernel, rfl, by decide +kernel, by decide +kernel⟩
theorem ok_diff0 {f : Addr} {fd : FuncData} (F : Fun K "are_different" "are_different" sDiff f fd) (T : Bare mg) (T2 : Bare2 mg) : FnOk P w K mg base CX0 1 f fd ["values"] spDiff0 := by
  refine F.ok scDiff (fun vs H Q E h => ?_) (fun cdv A outer s H vs Q E hr h => ?_)
  · obtain ⟨l, rfl, _⟩ := h
    rfl
  · obtain ⟨l, rfl, hl, q⟩ := h
    refine ⟨_, (pss_one (ps_ret (pe_cmpR op_eq (pe_lenSet rfl (by rfl) T.len (by rfl) T2.set (pv 0)) (pe_callB call_len_seq (by rfl) T.len PySem.boot_len (pa_cons (pv 0) pa_nil)) (nomark _)))), ?_⟩
    exact ⟨_, rfl, l, [], rfl, .inl (SqL.of hl), Nat.zero_le _, _, rfl, l, [], rfl, .inl (SqL.of hl), rfl, q⟩
theorem scKK : FnScope ["kinds", "kept", "kind"] ["kinds"] (defScope sKK) := ⟨rfl, rfl, rfl, by decide +kernel, rfl, by decide +kernel, by decide +kernel⟩
theorem ok_kk {f : Addr} {fd : FuncData} (F : Fun K "_kept_kinds" "_kept_kinds" sKK f fd) : FnOk P w K mg base CX0 1 f fd ["kinds"] spKK := by
  refine F.ok scKK (fun vs H Q E h => ?_) (fun cdv A outer s H vs Q E hr h => ?_)
  · obtain ⟨rfl, _⟩ := h
    rfl
  · obtain ⟨rfl, q⟩ := h
    refine ⟨_, (pss_cons (ps_if (pt_cmpR op_isN (pv 0) pe_non (nomark _)) (pss_one (ps_ret pe_non)) pss_nil) pss_never), ?_⟩
    exact ⟨_, rfl, rfl, _, rfl, q⟩
abbrev nKL : List S := ["letters", "name"]
theorem scKL : FnScope nKL ["letters"] (defScope sKL) := ⟨rfl, rfl, rfl, by decide +kernel, rfl, by decide +kernel, by decide +kernel⟩
theorem ok_kl {f fN fKK : Addr} {fd fdN fdKK : FuncData} (F : Fun K "_kept_letters" "_kept_letters" sKL f fd) (T : Bare mg) (c2 : Cst2 mg) (GN : FnOk P w K mg base CX0 1 fN fdN ["value"] spIsName) (bN : Binds K fdN ["value"] []) (kN : PySem.W.keepIn K (.ref fN) = true) (mN : mg "is_name" = some (.ref fN)) (GKK : FnOk P w K mg base CX0 1 fKK fdKK ["kinds"] spKK) (bKK : Binds K fdKK ["kinds"] []) (kKK : PySem.W.keepIn K (.ref fKK) = true) (mKK : mg "_kept_kinds" = some (.ref fKK)) : FnOk P w K mg base CX0 2 f fd ["letters"] spKL := by
  refine F.ok scKL (fun vs H Q E h => ?_) (fun cdv A outer s H vs Q E hr h => ?_)
  · obtain ⟨d, rfl, _⟩ := h
    rfl
  · obtain ⟨d, rfl, hd, q⟩ := h
    have hu := hu_of hr
    obtain ⟨t5, m5⟩ := c2.pl
    refine ⟨_, (pss_cons (ps_if (PW.pt (pw_or (pt_not (pt_val (pe_callB call_isi (by rfl) T.isi (by decide +kernel) (pa_cons (pv 0) (pa_cons (pe_bltn (v := .ty "dict") (by rfl) T.dict (by decide +kernel) rfl) pa_nil))))) (pw_or1 (pt_not (pt_val (pe_callB (cr_all rfl) (by rfl) T.all (by decide +kernel) (pa_cons (pe_lock (pe_lc (own := [("name", 1)]) (g := gName 1) (tt := tYes) rfl scKL.nd (pi_keys (pv 0)) (blkOk_by (own := [("name", 1)]) (N := nKL) (sc := defScope sKL) (by decide +kernel)) (fun _ _ _ _ _ => pg_name (i := 1) scKL.nd rfl (Or.inl rfl)) (fun _ _ _ _ _ => pts_nil) (fun _ _ _ _ _ => (pe_call GN (hr.mono (by decide)) (by rfl) mN kN bN .nil pass0 (pa_cons (pv 1) pa_nil))))) pa_nil))))))) (pss_one ps_never) pss_nil)
      (pss_cons (ps_if (pt_not (pt_chain op_le op_le pe_int (pe_callB call_lenD (by rfl) T.len PySem.boot_len (pa_cons (pv 0) pa_nil)) (pe_glob (v := .int 5) rfl m5 ⟨_, rfl⟩))) (pss_one ps_never) pss_nil)
      (pss_one (ps_ret (pe_dc (own := [("name", 1)]) (g := gName 1) (tt := tYes) rfl scKL.nd (pi_list (pe_callB (L2.call_sortedD rfl) (by rfl) T.sort (by decide +kernel) (pa_cons (pv 0) pa_nil))) (blkOk_by (own := [("name", 1)]) (N := nKL) (sc := defScope sKL) (by decide +kernel)) (fun _ _ _ _ _ => pg_name (i := 1) scKL.nd rfl (Or.inl rfl)) (fun _ _ _ _ _ => pts_nil) (fun _ _ _ _ _ => (pv 1)) (fun _ _ _ _ _ => (pe_call GKK (hr.mono (by decide)) (by rfl) mKK kKK bKK .nil pass0 (pa_cons (pe_dget hu (pv 0) (pv 1) (fun _ _ => rfl)) pa_nil)))))))), ?_⟩
    refine ⟨_, rfl, _, .ty "dict", _, .type "dict", true, rfl, .ty _, .base (.dK hd), kit_ty (by decide +kernel), true, rfl, ?_⟩
    refine ⟨d, _, hd, trivial, fun od => ⟨_, rfl, d, od, rfl, .inl ⟨nmK kvX, upd_same, fun D n0 => ?_⟩⟩⟩
    have hdD : d ≠ D := ne_of_none upd_same n0
    have n0' : H D = none := by rw [upd_ne hdD.symm] at n0; exact n0
    refine lc_ex (xs := [V.str "x"]) wk_keys (fun _ => some (V.bl true)) (fun ys => by rw [upd_ne hdD, upd_same]) (by decide) (fun i x ys R Nn hx hR hN => ⟨rfl, ?_⟩) ?_
    · have hx' : x = .str "x" := by
        cases i with
        | zero => exact (Option.some.inj hx).symm
        | succ i => cases hx
      subst hx'
      refine ⟨_, rfl, "x", rfl, by decide, ?_⟩
      rw [show nm ("x" : S) = true by decide +kernel]
      exact hR _ rfl
    · refine ⟨by rw [upd_ne hdD, upd_same], ?_⟩
      rw [unlock_eq hd n0']
      refine ⟨D, [true], rfl, SqL.of upd_same, ?_⟩
      refine ⟨true, rfl, ?_⟩
      have s1 := same_upd (o := .lst [V.bl true]) n0'
      have hd1 := s1 _ _ hd
      show _
      refine ⟨_, rfl, d, _, rfl, hd1, _, _, rfl, rfl, _, rfl, _, _, rfl, rfl, _, rfl, ?_⟩
      refine ⟨_, rfl, d, nmK kvX, ["x"], rfl, .inl hd1, rfl, by decide, fun ys p hp _ np => ?_⟩
      obtain rfl : ys = (["x"] : List S) := List.perm_singleton.mp hp
      have s2 := s1.trans (same_upd (o := .lst [V.str "x"]) np)
      have hp2 : (upd (upd H D (.lst [V.bl true])) p (.lst [V.str "x"])) p = some (.lst [V.str "x"]) := upd_same
      refine ⟨p, rfl, ⟨_, SqL.of hp2⟩, fun E0 m0 => ?_⟩
      have npE : p ≠ E0 := ne_of_none hp2 m0
      have hd2 := s2 _ _ hd
      refine dc_lst (K := K) (a := p) (xs := [V.str "x"]) (fun i G => G = upd (upd (upd H D (.lst [V.bl true])) p (.lst [V.str "x"])) E0 (.dK (nmK (kvX.take i)))) rfl (fun i G _ e => SqL.of (by rw [e, upd_ne npE]; exact hp2)) (fun i x G hx e => ?_) (fun G e => ?_)
      · subst e
        have hi : i = 0 := by
          cases i with
          | zero => rfl
          | succ i => cases hx
        subst hi
        obtain rfl : V.str "x" = x := Option.some.inj hx
        have hd3 : (upd (upd (upd H D (.lst [V.bl true])) p (.lst [V.str "x"])) E0 (.dK (nmK (kvX.take 0)))) d = some (.dK (nmK kvX)) := by rw [upd_ne (ne_of_none hd2 m0)]; exact hd2
        have hg : DGet (upd (upd (upd H D (.lst [V.bl true])) p (.lst [V.str "x"])) E0 (.dK (nmK (kvX.take 0)))) d (.str "x") (some .non) := DGet.k (k := Sum.inr "x") hd3
        exact ⟨rfl, _, rfl, _, rfl, _, rfl, d, _, rfl, hg, rfl, nmK (kvX.take 0), Sum.inr "x", rfl, upd_same, by show 0 < sizeLine; rw [sizeLine_eq]; decide, by rw [upd_upd]; rfl⟩
      · subst e
        exact q E0 _ (s2.trans (same_upd m0)) upd_same
abbrev nKC : List S := ["letters", "conditions", "pair"]
theorem scKC : FnScope nKC ["letters", "conditions"] (defScope sKC) := ⟨rfl, rfl, rfl, by decide +kernel, rfl, by decide +kernel, by decide +kernel⟩
theorem ok_kc {f : Addr} {fd : FuncData} (F : Fun K "_kept_conditions" "_kept_conditions" sKC f fd) (T : Bare mg) (T2 : Bare2 mg) : FnOk P w K mg base CX0 1 f fd ["letters", "conditions"] (spKC K) := by
  refine F.ok scKC (fun vs H Q E h => ?_) (fun cdv A outer s H vs Q E hr h => ?_)
  · obtain ⟨v, t, rfl, _⟩ := h
    rfl
  · obtain ⟨v, t, rfl, ht, q⟩ := h
    refine ⟨_, (pss_cons (ps_if (PW.pt (pw_or (pt_not (pt_val (pe_callB call_isi (by rfl) T.isi (by decide +kernel) (pa_cons (pv 1) (pa_cons (pe_bltn (v := .ty "tuple") (by rfl) T.tup (by decide +kernel) rfl) pa_nil))))) (pw_or1 (pt_not (pt_val (pe_callB (cr_all rfl) (by rfl) T.all (by decide +kernel) (pa_cons (pe_lc (own := [("pair", 2)]) (g := gName 2) (tt := tYes) rfl scKC.nd (pi_tup (pv 1)) (blkOk_by (own := [("pair", 2)]) (N := nKC) (sc := defScope sKC) (by decide +kernel)) (fun _ _ _ _ _ => pg_name (i := 2) scKC.nd rfl (Or.inl rfl)) (fun _ _ _ _ _ => pts_nil) (fun _ _ _ _ _ => pe_never)) pa_nil))))))) (pss_one ps_never) pss_nil)
      (pss_cons (ps_if (pt_not (pt_val (pe_callB (cr_all rfl) (by rfl) T.all (by decide +kernel) (pa_cons (pe_lc (own := [("pair", 2)]) (g := gName 2) (tt := tYes) rfl scKC.nd (pi_tup (pv 1)) (blkOk_by (own := [("pair", 2)]) (N := nKC) (sc := defScope sKC) (by decide +kernel)) (fun _ _ _ _ _ => pg_name (i := 2) scKC.nd rfl (Or.inl rfl)) (fun _ _ _ _ _ => pts_nil) (fun _ _ _ _ _ => pe_never)) pa_nil)))) (pss_one ps_never) pss_nil)
      (pss_one (ps_ret (pe_callTy call_tuple_of (by rfl) T.tup (by decide +kernel) (pa_cons (pe_callB (cr_sortedSet rfl) (by rfl) T.sort (by decide +kernel) (pa_cons (pe_callTy (cr_setT0 rfl) (by rfl) T2.set (by decide +kernel) (pa_cons (pv 1) pa_nil)) pa_nil)) pa_nil)))))), ?_⟩
    refine ⟨_, rfl, _, .ty "tuple", _, .type "tuple", true, rfl, .ty _, tyx_t ht, kit_ty (by decide +kernel), true, rfl, ?_⟩
    refine ⟨_, rfl, t, rfl, ⟨_, ht⟩, fun D nD => ?_⟩
    have s1 := same_upd (o := .lst []) nD
    refine ⟨fun i m G => i = 0 ∧ G = _, ⟨0, rfl, rfl⟩, fun i m G e => ?_⟩
    obtain ⟨rfl, rfl⟩ := e
    refine .inl ⟨⟨[], sqT_s ht s1, Nat.le_refl _⟩, ?_⟩
    refine ⟨D, [], rfl, SqL.of upd_same, true, rfl, ?_⟩
    show _
    refine ⟨_, rfl, t, rfl, ⟨_, sqT_s ht s1⟩, fun D2 nD2 => ?_⟩
    have s2 := s1.trans (same_upd (o := .lst []) nD2)
    refine ⟨fun i m G => i = 0 ∧ G = _, ⟨0, rfl, rfl⟩, fun i m G e => ?_⟩
    obtain ⟨rfl, rfl⟩ := e
    refine .inl ⟨⟨[], sqT_s ht s2, Nat.le_refl _⟩, ?_⟩
    refine ⟨D2, [], rfl, SqL.of upd_same, true, rfl, ?_⟩
    show _
    refine ⟨_, rfl, t, rfl, sqT_s ht s2, fun a na => ?_⟩
    have s3 := s2.trans (same_upd (o := SetO w a (fun _ => false) 0) na)
    refine ⟨a, _, 0, rfl, upd_same, by decide, fun ns p _ _ hl np => ?_⟩
    obtain rfl : ns = [] := List.eq_nil_of_length_eq_zero hl
    have s4 := s3.trans (same_upd (o := .lst (([] : List Int).map V.int)) np)
    refine ⟨p, [], rfl, .inl ⟨SqL.of upd_same, fun r nr => ?_⟩⟩
    exact q r _ (s4.trans (same_upd nr)) (SqT.of upd_same)
abbrev nKG : List S := ["letters", "groups", "rows", "kept", "events", "group", "row", "event"]
theorem scKG : FnScope nKG ["letters", "groups"] (defScope sKG) := ⟨rfl, rfl, rfl, by decide +kernel, rfl, by decide +kernel, by decide +kernel⟩
theorem ok_kg {f fDf : Addr} {fd fdDf : FuncData} (F : Fun K "_kept_groups" "_kept_groups" sKG f fd) (T : Bare mg) (T2 : Bare2 mg) (GDf : FnOk P w K mg base CX0 1 fDf fdDf ["values"] spDiff0) (bDf : Binds K fdDf ["values"] []) (kDf : PySem.W.keepIn K (.ref fDf) = true) (mDf : mg "are_different" = some (.ref fDf)) : FnOk P w K mg base CX0 2 f fd ["letters", "groups"] (spKC K) := by
  refine F.ok scKG (fun vs H Q E h => ?_) (fun cdv A outer s H vs Q E hr h => ?_)
  · obtain ⟨v, t, rfl, _⟩ := h
    rfl
  · obtain ⟨v, t, rfl, ht, q⟩ := h
    refine ⟨_, (pss_cons (ps_if (PW.pt (pw_or (pt_not (pt_val (pe_callB call_isi (by rfl) T.isi (by decide +kernel) (pa_cons (pv 1) (pa_cons (pe_bltn (v := .ty "tuple") (by rfl) T.tup (by decide +kernel) rfl) pa_nil))))) (pw_or1 (pt_not (pt_val (pe_callB (cr_all rfl) (by rfl) T.all (by decide +kernel) (pa_cons (pe_lc (own := [("group", 5)]) (g := gName 5) (tt := tYes) rfl scKG.nd (pi_tup (pv 1)) (blkOk_by (own := [("group", 5)]) (N := nKG) (sc := defScope sKG) (by decide +kernel)) (fun _ _ _ _ _ => pg_name (i := 5) scKG.nd rfl (Or.inl rfl)) (fun _ _ _ _ _ => pts_nil) (fun _ _ _ _ _ => pe_never)) pa_nil))))))) (pss_one ps_never) pss_nil)
      (pss_cons (ps_setLc (i := 2) (own := [("group", 5)]) (g := gName 5) (tt := tYes) rfl scKG.nd rfl rfl (sw_true rfl rfl rfl (by decide +kernel)) (pi_tup (pv 1)) (blkOk_by (own := [("group", 5)]) (N := nKG) (sc := defScope sKG) (by decide +kernel)) (fun _ _ _ _ _ => pg_name (i := 5) scKG.nd rfl (Or.inl rfl)) (fun _ _ _ _ _ => pts_nil) (fun _ _ _ _ _ => pe_never))
      (pss_cons (ps_set (i := 3) scKG.nd rfl (Or.inl rfl) (pe_callTy call_tuple_of (by rfl) T.tup (by decide +kernel) (pa_cons (pe_callB (cr_sortedB0 rfl) (by rfl) T.sort (by decide +kernel) (pa_cons (PpSet.pe_sc (own := [("row", 6)]) (g := gName 6) rfl scKG.nd (pi_list (pv 2)) (blkOk_by (own := [("row", 6)]) (N := nKG) (sc := defScope sKG) (by decide +kernel)) (fun _ _ _ _ _ => pg_name (i := 6) scKG.nd rfl (Or.inl rfl)) (fun _ _ _ _ _ => pts_one (pt_cmpR op_gt pe_never pe_never (nomark _))) (fun _ _ _ _ _ => pe_never)) pa_nil)) pa_nil)))
      (pss_cons (ps_setLc2 (i := 4) (own := [("group", 5), ("event", 7)]) (vs1 := [7]) (g := gName 5) (g1 := gName 7) (tt := tYes) (tt1 := tYes) rfl scKG.nd rfl rfl (sw_true rfl rfl rfl (by decide +kernel)) (pi_tup (pv 3)) (blkOk_by (own := [("group", 5), ("event", 7)]) (N := nKG) (sc := defScope sKG) (by decide +kernel)) (by decide) (fun _ _ _ _ _ => pg_name (i := 5) scKG.nd rfl (Or.inl rfl)) (fun _ _ _ _ _ => pts_nil) (fun _ _ _ _ _ => pi_never) (fun _ _ _ _ _ => pg_name (i := 7) scKG.nd rfl (Or.inl rfl)) (fun _ _ _ _ _ => pts_nil) (fun _ _ _ _ _ => pe_never))
      (pss_cons (ps_if (pt_not (pt_val (pe_call GDf (hr.mono (by decide)) (by rfl) mDf kDf bDf .nil pass0 (pa_cons (pv 4) pa_nil)))) (pss_one ps_never) pss_nil)
      (pss_cons (ps_if (pt_not (pt_val (pe_callB (cr_all rfl) (by rfl) T.all (by decide +kernel) (pa_cons (pe_lc (own := [("group", 5)]) (g := gName 5) (tt := tYes) rfl scKG.nd (pi_tup (pv 3)) (blkOk_by (own := [("group", 5)]) (N := nKG) (sc := defScope sKG) (by decide +kernel)) (fun _ _ _ _ _ => pg_name (i := 5) scKG.nd rfl (Or.inl rfl)) (fun _ _ _ _ _ => pts_nil) (fun _ _ _ _ _ => pe_never)) pa_nil)))) (pss_one ps_never) pss_nil)
      (pss_cons (ps_if (pt_val (pe_callB (cr_any rfl) (by rfl) T.any (by decide +kernel) (pa_cons (pe_lc2 (own := [("group", 5), ("event", 7)]) (vs1 := [7]) (g := gName 5) (g1 := gName 7) (tt := tYes) (tt1 := tYes) rfl scKG.nd (pi_tup (pv 3)) (blkOk_by (own := [("group", 5), ("event", 7)]) (N := nKG) (sc := defScope sKG) (by decide +kernel)) (by decide) (fun _ _ _ _ _ => pg_name (i := 5) scKG.nd rfl (Or.inl rfl)) (fun _ _ _ _ _ => pts_nil) (fun _ _ _ _ _ => pi_never) (fun _ _ _ _ _ => pg_name (i := 7) scKG.nd rfl (Or.inl rfl)) (fun _ _ _ _ _ => pts_nil) (fun _ _ _ _ _ => pe_never)) pa_nil))) (pss_one ps_never) pss_nil)
      (pss_one (ps_ret (pv 3)))))))))), ?_⟩
    refine ⟨_, rfl, _, .ty "tuple", _, .type "tuple", true, rfl, .ty _, tyx_t ht, kit_ty (by decide +kernel), true, rfl, ?_⟩
    refine ⟨_, rfl, t, rfl, ⟨_, ht⟩, fun D nD => ?_⟩
    have s1 := same_upd (o := .lst []) nD
    refine ⟨fun i m G => i = 0 ∧ G = _, ⟨0, rfl, rfl⟩, fun i m G e => ?_⟩
    obtain ⟨rfl, rfl⟩ := e
    refine .inl ⟨⟨[], sqT_s ht s1, Nat.le_refl _⟩, ?_⟩
    refine ⟨D, [], rfl, SqL.of upd_same, true, rfl, ?_⟩
    show _
    refine ⟨_, rfl, t, rfl, ⟨_, sqT_s ht s1⟩, fun D2 nD2 => ?_⟩
    have s2 := s1.trans (same_upd (o := .lst []) nD2)
    refine ⟨fun i m G => i = 0 ∧ G = _, ⟨0, rfl, rfl⟩, fun i m G e => ?_⟩
    obtain ⟨rfl, rfl⟩ := e
    refine .inl ⟨⟨[], sqT_s ht s2, Nat.le_refl _⟩, ?_⟩
    have e2 : (upd (upd H D (.lst [])) D2 (.lst [])) D2 = some (.lst []) := upd_same
    generalize upd (upd H D (.lst [])) D2 (.lst []) = H2 at s2 e2 ⊢
    -- kept
    refine ⟨_, rfl, D2, rfl, ⟨_, SqL.of e2⟩, fun D3 nD3 => ?_⟩
    have s3 := s2.trans (same_upd (o := PpSet.SetBO w D3 (fun _ => false) 0) nD3)
    refine ⟨fun i m G => i = 0 ∧ G = _, ⟨0, rfl, rfl⟩, fun i m G e => ?_⟩
    obtain ⟨rfl, rfl⟩ := e
    refine .inl ⟨⟨[], SqL.of (same_upd nD3 _ _ e2), Nat.le_refl _⟩, ?_⟩
    refine ⟨D3, _, rfl, upd_same, fun p np => ?_⟩
    have s4 := s3.trans (same_upd (o := .lst []) np)
    refine ⟨p, [], rfl, .inl ⟨SqL.of upd_same, fun r nr => ?_⟩⟩
    have s5 := s4.trans (same_upd (o := .tup []) nr)
    -- events
    refine ⟨_, rfl, r, rfl, ⟨_, SqT.of upd_same⟩, fun D6 nD6 => ?_⟩
    have s6 := s5.trans (same_upd (o := .lst []) nD6)
    have r6 := same_upd (o := .lst []) nD6 _ _ upd_same
    refine ⟨fun i m G => i = 0 ∧ G = _, ⟨0, rfl, rfl⟩, fun i m G e => ?_⟩
    obtain ⟨rfl, rfl⟩ := e
    refine .inl ⟨⟨[], SqT.of r6, Nat.le_refl _⟩, ?_⟩
    refine ⟨_, rfl, D6, rfl, upd_same, true, rfl, ?_⟩
    show _
    refine ⟨_, rfl, r, rfl, ⟨_, SqT.of r6⟩, fun D7 nD7 => ?_⟩
    have s7 := s6.trans (same_upd (o := .lst []) nD7)
    have r7 := same_upd (o := .lst []) nD7 _ _ r6
    refine ⟨fun i m G => i = 0 ∧ G = _, ⟨0, rfl, rfl⟩, fun i m G e => ?_⟩
    obtain ⟨rfl, rfl⟩ := e
    refine .inl ⟨⟨[], SqT.of r7, Nat.le_refl _⟩, ?_⟩
    refine ⟨D7, [], rfl, SqL.of upd_same, true, rfl, ?_⟩
    show _
    refine ⟨_, rfl, r, rfl, ⟨_, SqT.of r7⟩, fun D8 nD8 => ?_⟩
    have s8 := s7.trans (same_upd (o := .lst []) nD8)
    have r8 := same_upd (o := .lst []) nD8 _ _ r7
    refine ⟨fun i m G => i = 0 ∧ G = _, ⟨0, rfl, rfl⟩, fun i m G e => ?_⟩
    obtain ⟨rfl, rfl⟩ := e
    refine .inl ⟨⟨[], SqT.of r8, Nat.le_refl _⟩, ?_⟩
    refine ⟨D8, [], rfl, SqL.of upd_same, false, rfl, ?_⟩
    show _
    exact ⟨_, rfl, q r _ s8 (SqT.of r8)⟩
end
end M46

/-! Rule(Pattern(x=None)): the two classes (made by gJW.py). -/
namespace M46
open PySem PySem.Spec PyProof.Rows L2 R0 K1 ClX StX LamX K2

section
variable {P : Program} {w : World} {K : PySem.W.Frag} {mg : PySem.Str → Option Value} {base : Heap} {CP CR : Addr}
theorem scMany : FnScope ["groups", "many", "group", "at"] ["groups"] (defScope sMany) := ⟨rfl, rfl, rfl, by decide +kernel, rfl, by decide +kernel, by decide +kernel⟩
theorem ok_many {f : Addr} {fd : FuncData} (F : Fun K "many_arrangements" "many_arrangements" sMany f fd) : FnOk P w K mg base CX0 1 f fd ["groups"] (spMany K) := by
  refine F.ok scMany (fun vs H Q E h => ?_) (fun cdv A outer s H vs Q E hr h => ?_)
  · obtain ⟨t, rfl, _⟩ := h
    rfl
  · obtain ⟨t, rfl, ht, q⟩ := h
    refine ⟨_, (pss_cons (ps_set (i := 1) scMany.nd rfl (Or.inl rfl) pe_int) (pss_cons (ps_for PassesOwn.never rfl (pi_tup (pv 0)) (pg_name (i := 2) scMany.nd rfl (Or.inl rfl)) pss_never) (pss_one (ps_ret (pv 1))))), ?_⟩
    refine ⟨_, rfl, t, rfl, ⟨_, ht⟩, ?_⟩
    refine ⟨fun i m σ G => i = 0 ∧ σ = _ ∧ G = _, ⟨0, rfl, rfl, rfl⟩, fun i m σ G e => ?_⟩
    obtain ⟨rfl, rfl, rfl⟩ := e
    exact .inl ⟨⟨[], ht, Nat.le_refl _⟩, _, rfl, q⟩
theorem scParts : FnScope ["letters", "conditions", "groups", "kinds_by_name"] ["letters", "conditions", "groups"] (defScope sParts) := ⟨rfl, rfl, rfl, by decide +kernel, rfl, by decide +kernel, by decide +kernel⟩
theorem ok_parts {f fLt fCd fGr : Addr} {fd fdLt fdCd fdGr : FuncData} (F : Fun K "kept_parts" "kept_parts" sParts f fd) (GLt : FnOk P w K mg base CX0 2 fLt fdLt ["letters"] spKL) (bLt : Binds K fdLt ["letters"] []) (kLt : PySem.W.keepIn K (.ref fLt) = true) (mLt : mg "_kept_letters" = some (.ref fLt)) (GCd : FnOk P w K mg base CX0 1 fCd fdCd ["letters", "conditions"] (spKC K)) (bCd : Binds K fdCd ["letters", "conditions"] []) (kCd : PySem.W.keepIn K (.ref fCd) = true) (mCd : mg "_kept_conditions" = some (.ref fCd)) (GGr : FnOk P w K mg base CX0 2 fGr fdGr ["letters", "groups"] (spKC K)) (bGr : Binds K fdGr ["letters", "groups"] []) (kGr : PySem.W.keepIn K (.ref fGr) = true) (mGr : mg "_kept_groups" = some (.ref fGr)) : FnOk P w K mg base CX0 3 f fd ["letters", "conditions", "groups"] (spParts K) := by
  refine F.ok scParts (fun vs H Q E h => ?_) (fun cdv A outer s H vs Q E hr h => ?_)
  · obtain ⟨d, t1, t2, rfl, _⟩ := h
    rfl
  · obtain ⟨d, t1, t2, rfl, hd, h1, h2, q⟩ := h
    refine ⟨_, (pss_cons (ps_set (i := 3) scParts.nd rfl (Or.inl rfl) (pe_call GLt (hr.mono (by decide)) (by rfl) mLt kLt bLt .nil pass0 (pa_cons (pv 0) pa_nil))) (pss_one (ps_ret (pe_tup (pa_cons (pv 3) (pa_cons (pe_call GCd (hr.mono (by decide)) (by rfl) mCd kCd bCd .nil pass0 (pa_cons (pv 3) (pa_cons (pv 1) pa_nil))) (pa_cons (pe_call GGr (hr.mono (by decide)) (by rfl) mGr kGr bGr .nil pass0 (pa_cons (pv 3) (pa_cons (pv 2) pa_nil))) pa_nil))))))), ?_⟩
    refine ⟨_, rfl, d, rfl, hd, fun e G sG he => ?_⟩
    refine ⟨_, rfl, _, rfl, _, rfl, _, t1, rfl, sqT_s h1 sG, fun u1 G1 s1 k1 => ?_⟩
    refine ⟨_, rfl, _, rfl, _, t2, rfl, sqT_s h2 (sG.trans s1), fun u2 G2 s2 k2 => ⟨by show 3 ≤ sizeLine; rw [sizeLine_eq]; decide, fun p np => ?_⟩⟩
    exact q p e u1 u2 _ (((sG.trans s1).trans s2).trans (same_upd np)) upd_same (sqT_s k2 (same_upd np))
theorem scPartsOf : FnScope ["letters", "conditions", "groups", "parts"] ["letters", "conditions", "groups"] (defScope sPartsOf) := ⟨rfl, rfl, rfl, by decide +kernel, rfl, by decide +kernel, by decide +kernel⟩
theorem ok_partsof {f fPr fMn : Addr} {fd fdPr fdMn : FuncData} (F : Fun K "_parts_of" "_parts_of" sPartsOf f fd) (c2 : Cst2 mg) (GPr : FnOk P w K mg base CX0 3 fPr fdPr ["letters", "conditions", "groups"] (spParts K)) (bPr : Binds K fdPr ["letters", "conditions", "groups"] []) (kPr : PySem.W.keepIn K (.ref fPr) = true) (mPr : mg "kept_parts" = some (.ref fPr)) (GMn : FnOk P w K mg base CX0 1 fMn fdMn ["groups"] (spMany K)) (bMn : Binds K fdMn ["groups"] []) (kMn : PySem.W.keepIn K (.ref fMn) = true) (mMn : mg "many_arrangements" = some (.ref fMn)) : FnOk P w K mg base CX0 4 f fd ["letters", "conditions", "groups"] (spParts K) := by
  refine F.ok scPartsOf (fun vs H Q E h => ?_) (fun cdv A outer s H vs Q E hr h => ?_)
  · obtain ⟨d, t1, t2, rfl, _⟩ := h
    rfl
  · obtain ⟨d, t1, t2, rfl, hd, h1, h2, q⟩ := h
    obtain ⟨ta, ma⟩ := c2.ar
    refine ⟨_, (pss_cons (ps_set (i := 3) scPartsOf.nd rfl (Or.inl rfl) (pe_call GPr (hr.mono (by decide)) (by rfl) mPr kPr bPr .nil pass0 (pa_cons (pv 0) (pa_cons (pv 1) (pa_cons (pv 2) pa_nil))))) (pss_cons (ps_if (pt_cmpR op_gt (pe_call GMn (hr.mono (by decide)) (by rfl) mMn kMn bMn .nil pass0 (pa_cons (pe_ix ix_tup (pv 3) pe_int (fun _ _ => rfl)) pa_nil)) (pe_glob (v := .int 600) rfl ma ⟨_, rfl⟩) (nomark _)) (pss_one ps_never) pss_nil) (pss_one (ps_ret (pv 3))))), ?_⟩
    refine ⟨_, rfl, _, rfl, _, rfl, d, t1, t2, rfl, hd, h1, h2, fun p e u1 u2 G sG hp k2 => ?_⟩
    refine ⟨_, rfl, p, _, _, .ref u2, rfl, rfl, SqT.of hp, rfl, u2, rfl, k2, _, _, rfl, rfl, _, rfl, ?_⟩
    refine ite2 (fun z => absurd z (by decide)) (fun _ => ?_)
    exact ⟨_, rfl, q p e u1 u2 G sG hp k2⟩
def kwP : Arg := match (defArgs sPInit).kwarg with
  | some a => a
  | none => ⟨"", none, ⟨0, 0, 0, 0⟩⟩
structure ClsP (K : PySem.W.Frag) (C : Addr) : Prop where
  cl : Cls K C
  nL : NoAttr K C "_letters"
  nC : NoAttr K C "_conditions"
  nG : NoAttr K C "_groups"
theorem scPInit : FnScope ["self", "conditions", "groups", "letters"] ["self", "conditions", "groups", "letters"] (defScope sPInit) := ⟨rfl, rfl, rfl, by decide +kernel, rfl, by decide +kernel, by decide +kernel⟩
theorem ok_pinit {f fPo t1 t2 : Addr} {fd fdPo : FuncData} (F : FunD K "__init__" "Pattern.__init__" (defArgs sPInit) (defBody sPInit) (defScope sPInit) [] [("conditions", V.ref t1), ("groups", V.ref t2)] f fd) (cp : ClsP K CP) (GPo : FnOk P w K mg base CX0 4 fPo fdPo ["letters", "conditions", "groups"] (spParts K)) (bPo : Binds K fdPo ["letters", "conditions", "groups"] []) (kPo : PySem.W.keepIn K (.ref fPo) = true) (mPo : mg "_parts_of" = some (.ref fPo)) : FnW P w K mg base CX0 5 f (spW2 "self" "conditions" "groups" (V.ref t1) (V.ref t2) (spPInit K CP)) := by
  refine fn_kw2 (more := kwP) F (show FnScope ["self", "conditions", "groups", "letters"] ["self", "conditions", "groups", kwP.arg] (defScope sPInit) from scPInit) rfl rfl rfl rfl rfl (by decide +kernel) (by decide +kernel) (by decide +kernel) StX.cxUp_none (fun cdv A outer s H vs Q E hr h => ?_)
  obtain ⟨x, dx, a1, a2, d, rfl, hx, hd, h1, h2, q⟩ := h
  refine ⟨_, (pss_one (ps_asg (pe_call GPo hr (by rfl) mPo kPo bPo .nil pass0 (pa_cons (pv 3) (pa_cons (pv 1) (pa_cons (pv 2) pa_nil)))) (pg_tup (by rfl) (pgs_cons (pg_att (pv 0)) (pgs_cons (pg_att (pv 0)) (pgs_cons (pg_att (pv 0)) pgs_nil)))))), ?_⟩
  refine ⟨_, rfl, _, rfl, _, rfl, d, a1, a2, rfl, hd, h1, h2, fun p e u1 u2 G sG hp k2 => ?_⟩
  have gx := sG _ _ hx
  refine ⟨p, _, rfl, SqT.of hp, rfl, _, _, rfl, _, rfl, x, CP, dx, [], rfl, gx, cp.cl, cp.nL, Nat.zero_lt_succ _, _, _, rfl, _, rfl, x, CP, dx, _, rfl, upd_same, cp.cl, cp.nC, (by show 1 < 1000; decide), _, _, rfl, _, rfl, x, CP, dx, _, rfl, upd_same, cp.cl, cp.nG, ?_, rfl, ?_⟩
  · have : ∀ (f : PySem.Str) (v : V) (l : List (PySem.Str × V)), (putF f v l).length ≤ l.length + 1 := fun f v l => length_putF f v l
    have h1 := this "_conditions" (V.ref u1) (putF "_letters" (V.ref e) [])
    have h2 := this "_letters" (V.ref e) []
    simp only [List.length_nil] at h2
    omega
  · refine q _ _ (fun b u hb eb => ?_) upd_same
    rw [upd_ne hb, upd_ne hb, upd_ne hb]
    exact sG _ _ eb
abbrev nADP : List S := ["values", "value", "at", "pattern"]
theorem scADP : FnScope nADP ["values"] (defScope sADP) := ⟨rfl, rfl, rfl, by decide +kernel, rfl, by decide +kernel, by decide +kernel⟩
theorem ok_adp {f : Addr} {fd : FuncData} (F : Fun K "_are_different_patterns" "_are_different_patterns" sADP f fd) (T : Bare mg) (T2 : Bare2 mg) (cl : Cls K CP) (ip : IsF K CP CP) (mP : mg "Pattern" = some (.ref CP)) : FnOk P w K mg base CX0 1 f fd ["values"] (spADP K CP) := by
  refine F.ok scADP (fun vs H Q E h => ?_) (fun cdv A outer s H vs Q E hr h => ?_)
  · obtain ⟨t, a, dx, fs, rfl, _⟩ := h
    rfl
  · obtain ⟨t, a, dx, fs, rfl, ht, ha, q⟩ := h
    refine ⟨_, (pss_cons (ps_if (pt_not (pt_val (pe_callB (cr_all rfl) (by rfl) T.all (by decide +kernel) (pa_cons (pe_lc (own := [("value", 1)]) (g := gName 1) (tt := tYes) (te := tCB (rIsi K) (tCons (tVar 1) (tCons (tC (V.ref CP)) tNil))) rfl scADP.nd (pi_tup (pv 0)) (blkOk_by (own := [("value", 1)]) (N := nADP) (sc := defScope sADP) (by decide +kernel)) (fun _ _ _ _ _ => pg_name (i := 1) scADP.nd rfl (Or.inl rfl)) (fun _ _ _ _ _ => pts_nil) (fun _ _ _ _ _ => (by exact (pe_callB call_isi (by rfl) T.isi (by decide +kernel) (pa_cons (pv 1) (pa_cons (pe_glob (v := .ref CP) rfl mP rfl) pa_nil)))))) pa_nil)))) (pss_one (ps_ret pe_bl)) pss_nil)
      (pss_one (ps_ret (pe_not (pe_callB (cr_any rfl) (by rfl) T.any (by decide +kernel) (pa_cons (pe_lc (own := [("at", 2), ("pattern", 3)]) (g := gTup K 2 (gCons (gName 2) (gCons (gName 3) gNil))) (tt := tYes) (te := tOp (rInT0 K) (tVar 3) (tSl (rSlA K) (tVar 0) tNoPart (tPart (tVar 2)))) rfl scADP.nd (pi_enumT (by rfl) T2.enm (pa_cons (pv 0) pa_nil)) (blkOk_by (own := [("at", 2), ("pattern", 3)]) (N := nADP) (sc := defScope sADP) (by decide +kernel)) (fun _ _ _ _ _ => pg_tup rfl (pgs_cons (pg_name (i := 2) scADP.nd rfl (Or.inl rfl)) (pgs_cons (pg_name (i := 3) scADP.nd rfl (Or.inl rfl)) pgs_nil))) (fun _ _ _ _ _ => pts_nil) (fun _ _ _ _ _ => by exact (pe_cmpR op_inT0 (pv 3) (pe_slice sl_tupA (pv 0) po_none (po_some (pv 2))) (by rfl)))) pa_nil)))))), ?_⟩
    refine ⟨_, rfl, t, rfl, ⟨_, ht⟩, fun D nD => ?_⟩
    have s1 : ∀ o, Same H (upd H D o) := fun o => same_upd nD
    refine lc_ex (xs := [V.ref a]) wk_tup (fun _ => some (V.bl true)) (fun ys => sqT_s ht (s1 _)) (by show 1 ≤ 1000; decide) (fun i x ys R Nn hx hR hN => ⟨rfl, ?_⟩) ?_
    · have hx' : x = .ref a := by
        cases i with
        | zero => exact (Option.some.inj hx).symm
        | succ i => cases hx
      subst hx'
      exact ⟨_, rfl, _, .ref CP, _, .ref CP, true, rfl, .own _, .base (.ins (s1 _ _ _ ha) cl ip.ha ip.hn ip.htk ip.hm), ip.one, hR _ rfl⟩
    · refine ⟨D, [true], rfl, SqL.of upd_same, true, rfl, ?_⟩
      show _
      have t1 := s1 (.lst [V.bl true])
      refine ⟨_, rfl, t, _, rfl, sqT_s ht t1, fun D2 nD2 => ?_⟩
      refine lc_gr (J := Itet K t) (n := 1) (fun i ys G => ys = List.replicate i (V.bl false) ∧ Same H G) (by decide) (fun i ys G h hi => ⟨[V.ref a], V.ref a, sqT_s ht h.2, (by
        have z : i = 0 := (by omega)
        rw [z]
        rfl)⟩) (fun ys G h => ⟨[V.ref a], sqT_s ht h.2, Nat.le_refl _⟩) ⟨rfl, t1.trans (same_upd nD2)⟩ (fun i x ys G G' R Nn hi hD hP hy hR hN => ?_) (fun ys G hD hP => ?_)
      · obtain ⟨rfl, sG⟩ := hP
        obtain rfl : i = 0 := by omega
        obtain ⟨T', y, rfl, nT, rfl, hall⟩ := hy
        have hDT : D2 ≠ T' := ne_of_none hD nT
        refine ⟨T', _, rfl, SqT.of upd_same, rfl, _, _, rfl, _, _, rfl, rfl, rfl, ?_⟩
        have sG' := sG.trans (same_upd (o := .tup [.int ((0 : Nat) : Int), y]) nT)
        refine ⟨_, rfl, _, rfl, _, rfl, _, rfl, t, [V.ref a], rfl, sqT_s ht sG', fun z => absurd z.2 (show ¬ HT.sIx 1 1 (some ((0 : Nat) : Int)) = 1 by decide), fun _ p np => ⟨p, rfl, SqT.of upd_same, ?_⟩⟩
        have hDp : D2 ≠ p := ne_of_none (same_upd nT _ _ hD) np
        refine hR _ _ (by rw [upd_ne hDp, upd_ne hDT]; exact hD) ⟨rfl, fun b u eb => ?_⟩
        have e1 := sG' _ _ eb
        have e2 := same_upd (o := .tup (cutV [V.ref a] none (some ((0 : Nat) : Int)))) np _ _ e1
        have hb : b ≠ D2 := ne_of_none (t1 _ _ eb) nD2
        rw [upd_ne hb]
        exact e2
      · obtain ⟨rfl, sG⟩ := hP
        refine ⟨D2, [false], rfl, SqL.of hD, ?_⟩
        exact ⟨false, rfl, q G sG⟩
structure ClsR (K : PySem.W.Frag) (C : Addr) : Prop where
  cl : Cls K C
  nP : NoAttr K C "_patterns"
theorem scRInit : FnScope ["self", "patterns"] ["self", "patterns"] (defScope sRInit) := ⟨rfl, rfl, rfl, by decide +kernel, rfl, by decide +kernel, by decide +kernel⟩
theorem ok_rinit {f fAd : Addr} {oc kV doc pm cdv ct : Value} {an od : Option Addr} {osl : Array (Option Value)} {fdAd : FuncData} (lk : K.lookup f = some ⟨oc, od, .func (PySem.W.fnOf "__init__" "Rule.__init__" (defArgs sRInit) (defBody sRInit) (defScope sRInit) .none kV doc pm an cdv ct), osl⟩) (hcd : PySem.W.codeIn K cdv "Rule.__init__" = true) (T : Bare mg) (c2 : Cst2 mg) (crr : ClsR K CR) (GAd : FnOk P w K mg base CX0 1 fAd fdAd ["values"] (spADP K CP)) (bAd : Binds K fdAd ["values"] []) (kAd : PySem.W.keepIn K (.ref fAd) = true) (mAd : mg "_are_different_patterns" = some (.ref fAd)) : FnR P w K mg base CX0 2 f (fun vs H Q E => ∃ ws rest, vs = ws ++ rest ∧ ws.length = (["self"] : List S).length ∧ rest.length ≤ sizeLine ∧ ∀ p, H p = Option.none → spRInit K CP CR (ws ++ [V.ref p]) (upd H p (.tup rest)) Q E) := by
  refine fn_star (pv := "patterns") lk hcd (show FnScope ["self", "patterns"] ((["self"] : List S) ++ (["patterns"] : List S)) (defScope sRInit) from scRInit) StX.cxUp_none (bind_star1 (B := fun l => bindArgs (PySem.W.fnOf "__init__" "Rule.__init__" (defArgs sRInit) (defBody sRInit) (defScope sRInit) .none kV doc pm an cdv ct) ⟨l, []⟩) (p1 := "self") (pv := "patterns") (fun a => rfl) (fun a r rs => rfl)) (fun A outer s H vs Q E hr h => ?_)
  · obtain ⟨x, dx, t, a, dy, fs, rfl, hx, ht, ha, q⟩ := h
    obtain ⟨tr, mr⟩ := c2.ru
    refine ⟨_, (pss_cons (ps_if (PW.pt (pw_or (pt_not (pt_chain op_le op_le pe_int (pe_callB call_len_seq (by rfl) T.len PySem.boot_len (pa_cons (pv 1) pa_nil)) (pe_glob (v := .int 6) rfl mr ⟨_, rfl⟩))) (pw_or1 (pt_not (pt_val (pe_call GAd (hr.mono (by decide)) (by rfl) mAd kAd bAd .nil pass0 (pa_cons (pv 1) pa_nil))))))) (pss_one ps_never) pss_nil) (pss_one (ps_asg (pv 1) (pg_att (pv 0))))), ?_⟩
    refine ⟨_, rfl, t, _, rfl, .inr (SqT.of ht), _, _, rfl, rfl, _, rfl, _, _, rfl, rfl, _, rfl, ?_⟩
    refine ⟨_, rfl, t, a, dy, fs, rfl, SqT.of ht, ha, fun G sG => ⟨true, rfl, ?_⟩⟩
    refine ⟨_, rfl, _, rfl, x, CR, dx, [], rfl, sG _ _ hx, crr.cl, crr.nP, Nat.zero_lt_succ _, ?_⟩
    refine q _ _ (fun b u hb eb => ?_) upd_same
    rw [upd_ne hb]
    exact sG _ _ eb
/-- the rule, made -/
def tRule (CR : Addr) : TE := fun _ H Q => ∀ r H' dy gs, Same H H' → H r = none → H' r = some (.ins CR dy gs) → Q (.ref r) H'
end
section
variable {X : Cx} {CP CR fP fR t1 t2 : Addr} {p1 p2 p3 p4 p5 p6 : Pos} {e : Expr}
theorem pe_rule (MP : Mk X.K CP fP) (GP : FnW X.prog X.w X.K X.mg X.base CX0 5 fP (spW2 "self" "conditions" "groups" (V.ref t1) (V.ref t2) (spPInit X.K CP))) (h1 : ∀ H, SqT X.K H t1 []) (h2 : ∀ H, SqT X.K H t2 []) (mP : X.mg "Pattern" = some (.ref CP)) (gP : Gl X "Pattern")
    (MR : Mk X.K CR fR) (GR : FnR X.prog X.w X.K X.mg X.base CX0 2 fR (fun vs H Q E => ∃ ws rest, vs = ws ++ rest ∧ ws.length = (["self"] : List S).length ∧ rest.length ≤ sizeLine ∧ ∀ p, H p = Option.none → spRInit X.K CP CR (ws ++ [V.ref p]) (upd H p (.tup rest)) Q E)) (mR : X.mg "Rule" = some (.ref CR)) (gR : Gl X "Rule") (hr : Room 6 X.A) :
    PE X (.Call (.Name "Rule" p1) [.Call (.Name "Pattern" p2) [] [⟨some "x", .Constant .none 0 p3, p4⟩] p5] [] p6) (tRule CR) := by
  have hk : PE X (.Call (.Name "Pattern" p2) [] [⟨some "x", .Constant .none 0 p3, p4⟩] p5) _ := pe_makeKV (E := L2.E0) (ks := ["x"]) MP GP hr gP mP pass0 (pk_cons pe_non pk_nil)
  have hh := pe_makeR (E := L2.E0) (pos := p6) (p := p1) MR GR (hr.mono (by decide)) gR mR pass0 (pa_cons hk pa_nil)
  refine ⟨fun pins s σ H Q I h => hh.run pins s σ H Q I ?_⟩
  refine fun x dx nx nd nex => ⟨by decide +kernel, by decide +kernel, by decide +kernel, by decide +kernel, by decide, fun d hd => ?_⟩
  have sx := made_same (C := CP) nx nd
  have hx : (upd (upd H dx (.own x)) x (.ins CP dx [])) x = some (.ins CP dx []) := upd_same
  have hxd : x ≠ d := ne_of_none hx hd
  refine ⟨x, dx, t1, t2, d, rfl, by rw [upd_ne hxd]; exact hx, upd_same, h1 _, h2 _, fun G fs sG hG => ⟨rfl, ?_⟩⟩
  have s1 : Same H G := fun b u eb => by
    have hbx : b ≠ x := ne_of_none eb nx
    refine sG b u hbx ?_
    rw [upd_ne (ne_of_none (sx _ _ eb) hd)]
    exact sx _ _ eb
  refine fun y dy ny ndy ney => ⟨[.ref y], [.ref x], rfl, rfl, by show 1 ≤ sizeLine; rw [sizeLine_eq]; decide, fun p hp => ?_⟩
  have sy := made_same (C := CR) ny ndy
  have hy : (upd (upd G dy (.own y)) y (.ins CR dy [])) y = some (.ins CR dy []) := upd_same
  have hxG := sy _ _ hG
  refine ⟨y, dy, p, x, dx, fs, rfl, by rw [upd_ne (ne_of_none hy hp)]; exact hy, upd_same, by rw [upd_ne (ne_of_none hxG hp)]; exact hxG, fun G2 gs s2 h2' => ⟨rfl, ?_⟩⟩
  refine h y G2 dy gs (fun b u eb => ?_) (s1.free ny) h2'
  have e1 := s1 _ _ eb
  refine s2 b u (ne_of_none e1 ny) ?_
  rw [upd_ne (ne_of_none (sy _ _ e1) hp)]
  exact sy _ _ e1
end
end M46

/-! _law_is_refused: the odd values, the odd words, and what stands between the statements. -/
namespace M46
open PySem PySem.Spec PyProof.Rows L2 R0 K1 ClX StX LamX

abbrev sIsRef : Stmt := top 60
abbrev nIR : List S := ["_law_dice_here", "_law_kinds", "_law_marking", "_law_odd", "_law_value", "_law_told", "_law_word_here", "_law_kind", "_law_due"]
theorem scIR : FnScope nIR ["_law_dice_here", "_law_kinds"] (defScope sIsRef) := ⟨rfl, rfl, rfl, by decide +kernel, rfl, by decide +kernel, by decide +kernel⟩
abbrev qL : S := (envOfC "_law_is_refused" (defScope sIsRef) 0 0 .none).qual ++ "<lambda>"
theorem tb1 {P1 : Addr} : ∀ p ∈ [(P1, qL)], p.1 = P1 → p.2 = qL := fun p hp _ => by rw [List.mem_singleton.mp hp]
/-! ### is_at_most of no marking -/
def spAtMostNo (K : PySem.W.Frag) (CM : Addr) : Sp := fun vs H Q _ => ∃ x y t, vs = [x, y] ∧ TyX K H y t ∧ PySem.W.kitOne K t (.ref CM) = some false ∧ Q (.bl false) H
theorem ok_atmost_no {P : Program} {w : World} {K : PySem.W.Frag} {mg : PySem.Str → Option Value} {base : Heap} {CM : Addr} {f : Addr} {fd : FuncData} (F : Fun K "is_at_most" "Marking.is_at_most" sAtMost f fd) (T : Bare mg) (mM : mg "Marking" = some (.ref CM)) : FnOk P w K mg base CX0 1 f fd ["self", "value"] (spAtMostNo K CM) := by
  refine F.ok scAtMost (fun vs H Q E h => ?_) (fun cdv A outer s H vs Q E hr h => ?_)
  · obtain ⟨x, y, t, rfl, _⟩ := h
    rfl
  · obtain ⟨x, y, t, rfl, ty, hk, q⟩ := h
    refine ⟨_, (pss_cons (ps_if (pt_not (pt_val (pe_callB call_isi (by rfl) T.isi (by decide +kernel) (pa_cons (pv 1) (pa_cons (pe_glob (v := .ref CM) rfl mM rfl) pa_nil))))) (pss_one (ps_ret pe_bl)) pss_nil) pss_never), ?_⟩
    exact ⟨_, rfl, y, .ref CM, t, .ref CM, false, rfl, .own _, ty, hk, false, rfl, q⟩
/-! ### values that are no markings -/
structure OddT (K : PySem.W.Frag) (CM : Addr) (T : String) : Prop where
  k : PySem.W.kitOne K (.type T) (.ref CM) = some false
  o : rightB K CM "or" T = true
  a : rightB K CM "and" T = true
structure OddF (P : Program) (w : World) (K : PySem.W.Frag) (CM CR : Addr) : Prop where
  non : OddT K CM "NoneType"
  int : OddT K CM "int"
  str : OddT K CM "str"
  dict : OddT K CM "dict"
  tup : OddT K CM "tuple"
  lst : OddT K CM "list"
  cl : Cls K CR
  is : IsF K CR CR
  rk : PySem.W.kitOne K (.ref CR) (.ref CM) = some false
  ro : ∀ h, K.In h → RightT (model P w) h CM "or" (.ref CR)
  ra : ∀ h, K.In h → RightT (model P w) h CM "and" (.ref CR)
def OV (CR : Addr) (H : Hp) (v : V) : Prop := v = .non ∨ v = .int 0 ∨ v = .str "notes" ∨ (∃ d, v = .ref d ∧ H d = some (.dK [])) ∨ (∃ d, v = .ref d ∧ H d = some (.tup [])) ∨ (∃ d, v = .ref d ∧ H d = some (.lst [.str "notes"])) ∨ (∃ d dy gs, v = .ref d ∧ H d = some (.ins CR dy gs))
def OW (H : Hp) (v : V) : Prop := v = .non ∨ v = .int 0 ∨ v = .str "Notes" ∨ v = .str "" ∨ v = .str "other" ∨ (∃ d, v = .ref d ∧ H d = some (.tup [.str "notes"])) ∨ (∃ d, v = .ref d ∧ H d = some (.lst [.str "notes"])) ∨ v = .bl true
theorem ov_ty {P : Program} {w : World} {K : PySem.W.Frag} {CM CR : Addr} (F : OddF P w K CM CR) {H : Hp} {v : V} (h : OV CR H v) : ∃ t, TyX K H v t ∧ PySem.W.kitOne K t (.ref CM) = some false ∧ (∀ h, K.In h → RightT (model P w) h CM "or" t) ∧ (∀ h, K.In h → RightT (model P w) h CM "and" t) := by
  have B : ∀ {T : String}, OddT K CM T → TyX K H v (.type T) → ∃ t, TyX K H v t ∧ PySem.W.kitOne K t (.ref CM) = some false ∧ (∀ h, K.In h → RightT (model P w) h CM "or" t) ∧ (∀ h, K.In h → RightT (model P w) h CM "and" t) := fun o ty => ⟨_, ty, o.k, fun _ X => right_b X o.o, fun _ X => right_b X o.a⟩
  rcases h with rfl | rfl | rfl | ⟨d, rfl, e⟩ | ⟨d, rfl, e⟩ | ⟨d, rfl, e⟩ | ⟨d, dy, gs, rfl, e⟩
  · exact B F.non (.base .non)
  · exact B F.int (.base (.int _))
  · exact B F.str (.base (.str _))
  · exact B F.dict (.base (.dK e))
  · exact B F.tup (.base (.tup e))
  · exact B F.lst (.base (.lst e))
  · exact ⟨_, .base (.ins e F.cl F.is.ha F.is.hn F.is.htk F.is.hm), F.rk, F.ro, F.ra⟩
theorem ow_odd {K : PySem.W.Frag} {H : Hp} {v : V} (h : OW H v) : ∃ d, OddW K H v d := by
  rcases h with rfl | rfl | rfl | rfl | rfl | ⟨d, rfl, e⟩ | ⟨d, rfl, e⟩ | rfl
  · exact ⟨_, .non, by decide +kernel, by decide +kernel⟩
  · exact ⟨_, .int _, by decide +kernel, by decide +kernel⟩
  · exact ⟨_, .str _, by decide +kernel, by decide +kernel⟩
  · exact ⟨_, .str _, by decide +kernel, by decide +kernel⟩
  · exact ⟨_, .str _, by decide +kernel, by decide +kernel⟩
  · exact ⟨.tuple [.str "notes"], .tup (SqT.of e) (.cons (.str _) .nil), by decide +kernel, by decide +kernel⟩
  · exact ⟨.list [.str "notes"], .lst (SqL.of e) (.cons (.str _) .nil), by decide +kernel, by decide +kernel⟩
  · exact ⟨_, .bl _, by decide +kernel, by decide +kernel⟩
/-! ### what stays -/
/-- all but the dice, the told words and the tables -/
def Far (p L : Addr) (H H' : Hp) : Prop := ∀ b o, b ≠ p → b ≠ L → (∀ ps, o ≠ .tbl ps) → H b = some o → H' b = some o
theorem Far.trans {p L : Addr} {H H1 H2 : Hp} (a : Far p L H H1) (b : Far p L H1 H2) : Far p L H H2 := fun c o n m t e => b c o n m t (a c o n m t e)
theorem Far.ext {p L : Addr} {H H' : Hp} (s : ExtN H H') : Far p L H H' := fun b o _ _ t e => s b o e t
theorem Far.but {p L : Addr} {H H' : Hp} (s : But p H H') : Far p L H H' := fun b o n _ _ e => s b o n e
theorem Far.upd {p L : Addr} {H : Hp} {o : HO} : Far p L H (upd H L o) := fun b u _ m _ e => by rw [upd_ne m]; exact e
def NotL (xs : List V) : Prop := xs ≠ [.str "notes"]
theorem ov_far {CR p L : Addr} {H H' : Hp} {v : V} {x y z : Int} {xs : List V} (D : Dice H p x y z) (hL : H L = some (.lst xs)) (nL : xs ≠ [.str "notes"]) (s : Far p L H H') (h : OV CR H v) : OV CR H' v := by
  have nt : ∀ {d : Addr} {o : HO}, H d = some o → o ≠ .lst xs → o ≠ .lst [.int x, .int y, .int z] → (∀ ps, o ≠ .tbl ps) → H' d = some o := fun e n1 n2 n3 => s _ _ (ne_of e D.at_ n2) (ne_of e hL n1) n3 e
  rcases h with rfl | rfl | rfl | ⟨d, rfl, e⟩ | ⟨d, rfl, e⟩ | ⟨d, rfl, e⟩ | ⟨d, dy, gs, rfl, e⟩
  · exact .inl rfl
  · exact .inr (.inl rfl)
  · exact .inr (.inr (.inl rfl))
  · exact .inr (.inr (.inr (.inl ⟨d, rfl, nt e (fun z => by cases z) (fun z => by cases z) (fun _ z => by cases z)⟩)))
  · exact .inr (.inr (.inr (.inr (.inl ⟨d, rfl, nt e (fun z => by cases z) (fun z => by cases z) (fun _ z => by cases z)⟩))))
  · exact .inr (.inr (.inr (.inr (.inr (.inl ⟨d, rfl, nt e (fun z => nL (HO.lst.inj z).symm) (fun z => by cases z) (fun _ z => by cases z)⟩)))))
  · exact .inr (.inr (.inr (.inr (.inr (.inr ⟨d, dy, gs, rfl, nt e (fun z => by cases z) (fun z => by cases z) (fun _ z => by cases z)⟩)))))
theorem ow_far {p L : Addr} {H H' : Hp} {v : V} {x y z : Int} {xs : List V} (D : Dice H p x y z) (hL : H L = some (.lst xs)) (nL : xs ≠ [.str "notes"]) (s : Far p L H H') (h : OW H v) : OW H' v := by
  have nt : ∀ {d : Addr} {o : HO}, H d = some o → o ≠ .lst xs → o ≠ .lst [.int x, .int y, .int z] → (∀ ps, o ≠ .tbl ps) → H' d = some o := fun e n1 n2 n3 => s _ _ (ne_of e D.at_ n2) (ne_of e hL n1) n3 e
  rcases h with rfl | rfl | rfl | rfl | rfl | ⟨d, rfl, e⟩ | ⟨d, rfl, e⟩ | rfl
  · exact .inl rfl
  · exact .inr (.inl rfl)
  · exact .inr (.inr (.inl rfl))
  · exact .inr (.inr (.inr (.inl rfl)))
  · exact .inr (.inr (.inr (.inr (.inl rfl))))
  · exact .inr (.inr (.inr (.inr (.inr (.inl ⟨d, rfl, nt e (fun z => by cases z) (fun z => by cases z) (fun _ z => by cases z)⟩)))))
  · exact .inr (.inr (.inr (.inr (.inr (.inr (.inl ⟨d, rfl, nt e (fun z => nL (HO.lst.inj z).symm) (fun z => by cases z) (fun _ z => by cases z)⟩))))))
  · exact .inr (.inr (.inr (.inr (.inr (.inr (.inr rfl))))))
theorem mrk_far {C p L a : Addr} {H H' : Hp} {ks : List S} {g : S → S} {x y z : Int} {xs : List V} (D : Dice H p x y z) (hL : H L = some (.lst xs)) (s : Far p L H H') (m : Mrk C H a ks g) : Mrk C H' a ks g := by
  obtain ⟨ws, h1, h⟩ := m
  obtain ⟨dx, d, e1, e2⟩ := h1.ex
  exact ⟨ws, ⟨dx, d, s _ _ (ne_of e1 D.at_ fun z => by cases z) (ne_of e1 hL fun z => by cases z) (fun _ z => by cases z) e1, s _ _ (ne_of e2 D.at_ fun z => by cases z) (ne_of e2 hL fun z => by cases z) (fun _ z => by cases z) e2⟩, h⟩
abbrev dueL : List S := ["operation", "operation", "marking", "marking", "marking", "marking", "marking", "marking", "marking", "name", "name", "marking", "marking"]
def toldV (n : Nat) : List V := (dueL.take n).map V.str
theorem told_not {n : Nat} (h : 0 < n) : toldV n ≠ [.str "notes"] := by
  cases n with
  | zero => exact absurd h (Nat.lt_irrefl 0)
  | succ n =>
    intro z
    have z := List.head_eq_of_cons_eq (show V.str "operation" :: _ = V.str "notes" :: [] from z)
    exact absurd (V.str.inj z) (by decide +kernel)
theorem told_next {n : Nat} {w : S} (h : dueL[n]? = some w) : toldV n ++ [V.str w] = toldV (n + 1) := by
  unfold toldV
  rw [List.take_add_one, h, List.map_append]
  rfl
theorem told_len {n : Nat} : (toldV n).length ≤ 13 := by
  unfold toldV
  rw [List.length_map]
  exact Nat.le_trans (List.length_take_le' n dueL) (Nat.le_refl 13)
/-- between two statements -/
structure Sta (K : PySem.W.Frag) (CM CR : Addr) (T : List (Addr × S)) (H : Hp) (p a L : Addr) (val word : V) (kind : S) (n : Nat) : Prop where
  m : ∃ ks g, KS ks ∧ Mrk CM H a ks g
  ov : OV CR H val
  ow : OW H word
  kl : kind.length ≤ 1000
  kn : nm kind = false
  tabs : Tabs T H
  told : H L = some (.lst (toldV n))
  pos : 0 < n
  dice : ∃ x y z, Dice H p x y z
section
variable {K : PySem.W.Frag} {CM CR p a L : Addr} {T : List (Addr × S)} {H H' : Hp} {val word : V} {kind : S} {n m : Nat}
theorem Sta.far (S : Sta K CM CR T H p a L val word kind n) (s : Far p L H H') (D : ∃ x y z, Dice H' p x y z) (t : Tabs T H') (e : H' L = some (.lst (toldV m))) (hm : 0 < m) : Sta K CM CR T H' p a L val word kind m := by
  obtain ⟨x, y, z, D0⟩ := S.dice
  obtain ⟨ks, g, h1, h2⟩ := S.m
  exact ⟨⟨ks, g, h1, mrk_far D0 S.told s h2⟩, ov_far D0 S.told (told_not S.pos) s S.ov, ow_far D0 S.told (told_not S.pos) s S.ow, S.kl, S.kn, t, e, hm, D⟩
theorem Sta.ext (S : Sta K CM CR T H p a L val word kind n) (s : ExtN H H') (t : Tabs T H') : Sta K CM CR T H' p a L val word kind n := by
  obtain ⟨x, y, z, D0⟩ := S.dice
  exact S.far (Far.ext s) ⟨x, y, z, dice_ext D0 s⟩ t (ext_at s S.told) S.pos
theorem Sta.same (S : Sta K CM CR T H p a L val word kind n) (s : Same H H') : Sta K CM CR T H' p a L val word kind n := S.ext (ext_of s) (S.tabs.ext s)
theorem Sta.npL (S : Sta K CM CR T H p a L val word kind n) : p ≠ L := by
  obtain ⟨x, y, z, D0⟩ := S.dice
  refine ne_of D0.at_ S.told fun h => ?_
  have h := HO.lst.inj h
  have hp := S.pos
  cases n with
  | zero => exact absurd hp (Nat.lt_irrefl 0)
  | succ n => unfold toldV at h; simp at h
/-- a word more is told -/
theorem Sta.next {w : PySem.Str} (S : Sta K CM CR T H p a L val word kind n) (h : dueL[n]? = some w) : Sta K CM CR T (upd H L (.lst (toldV n ++ [V.str w]))) p a L val word kind (n + 1) := by
  obtain ⟨x, y, z, D0⟩ := S.dice
  refine S.far Far.upd ⟨x, y, z, ⟨by rw [upd_ne S.npL]; exact D0.at_, D0.x0, D0.x1, D0.y0, D0.y1, D0.z0⟩⟩ (tabs_upd S.tabs S.told) ?_ (Nat.succ_pos n)
  rw [told_next h, upd_same]
end
/-- the statements from the told words on -/
def tTold (K : PySem.W.Frag) (CM CR : Addr) (T : List (Addr × S)) (n : Nat) : TS := fun D σ H => ∃ (p a L : Addr) (val word : V) (kind : S) (v1 v3 v8 : Option V), σ = [some (.ref p), v1, some (.ref a), v3, some val, some (.ref L), some word, some (.str kind), v8] ∧ Sta K CM CR T H p a L val word kind n ∧
  ∀ x y z H', Dice H' p x y z → Far p L H H' → Tabs T H' → D.rt (.bl true) H'
/-! ### words that are refused -/
theorem filt_other (v : V) : ([("other", v)] : List (S × V)).filter (fun q => !decide (q.1 = ("other" : S))) = [] := by
  rw [List.filter_cons_of_neg (by simp)]
  rfl
section
variable {K : PySem.W.Frag} {H : Hp} {v : V} {d : PyData}
theorem nm_a : nm ("a" : S) = true := by decide +kernel
theorem w_sh {x : S} (h : x ∈ W3) : SeqAt.shaped (.str x) = true := str_ok (w3_name h)
def kv1 (k : S) (v : V) : List (S × V) := [(k, v)]
def kv2 (j : S) (u : V) (k : S) (v : V) : List (S × V) := [(j, u), (k, v)]
theorem badw_a {D : Addr} (o : OddW K H v d) (e : H D = some (.dK (nmK (kv1 "a" v)))) : BadW K H (.ref D) :=
  .word (kv := kv1 "a" v) e (by show 1 ≤ 100; decide) (fun k hk => by rw [List.mem_singleton.mp hk]; exact nm_a) (.cons o.dp .nil) (fun x hx => by rw [List.mem_singleton.mp hx]; exact o.sh) (all_no (List.mem_singleton.mpr rfl) o.no)
theorem filt_yes {k : S} {v : V} {r : List (S × V)} (h : k ≠ ("other" : S)) : (((k, v) :: r) : List (S × V)).filter (fun q => !decide (q.1 = ("other" : S))) = (k, v) :: r.filter (fun q => !decide (q.1 = ("other" : S))) := List.filter_cons_of_pos (by simp [h])
theorem an : ("a" : S) ≠ ("other" : S) := by decide +kernel
theorem An : ("A" : S) ≠ ("other" : S) := by decide +kernel
theorem lk_o (v : V) : ([(("other" : S), v)] : List (S × V)).lookup ("other" : S) = some v := by
  unfold List.lookup
  rw [beq_self_eq_true]
theorem lk_n {k : S} {v : V} {r : List (S × V)} (h : k ≠ ("other" : S)) : (((k, v) :: r) : List (S × V)).lookup ("other" : S) = r.lookup ("other" : S) := by
  conv => lhs; unfold List.lookup
  rw [beq_eq_false_iff_ne.mpr h.symm]
theorem badp_a (o : OddW K H v d) : badKw K (kv1 "a" v) H := by
  refine ⟨by show slf ∉ ([("a" : S)] : List S); decide +kernel, by show ([("a" : S)] : List S).Nodup; decide +kernel, by show 1 ≤ 90; decide, ?_⟩
  unfold kv1
  rw [filt_yes an, lk_n an, List.filter_nil, putV_new (by show oth ∉ ([("a" : S)] : List S); decide +kernel)]
  exact .word (ds := [d, .str w0]) (by show 2 ≤ 100; decide) (fun k hk => by
    rcases List.mem_cons.mp hk with rfl | hk
    · exact nm_a
    · rw [List.mem_singleton.mp hk]; exact nm_oth) (.cons o.dp (.cons (.str _) .nil)) (fun x hx => by
    rcases List.mem_cons.mp hx with rfl | hx
    · exact o.sh
    · rw [List.mem_singleton.mp hx]; exact w_sh (by decide +kernel)) (all_no (List.mem_cons_self ..) o.no)
theorem badp_o (o : OddW K H v d) : badKw K (kv1 "other" v) H := by
  refine ⟨by show slf ∉ ([("other" : S)] : List S); decide +kernel, by show ([("other" : S)] : List S).Nodup; decide +kernel, by show 1 ≤ 90; decide, ?_⟩
  unfold kv1
  rw [filt_other, lk_o, putV_new (by show oth ∉ ([] : List S); decide +kernel)]
  exact .word (ds := [d]) (by show 1 ≤ 100; decide) (fun k hk => by rw [List.mem_singleton.mp hk]; exact nm_oth) (.cons o.dp .nil) (fun x hx => by rw [List.mem_singleton.mp hx]; exact o.sh) (all_no (List.mem_singleton.mpr rfl) o.no)
theorem badp_ao (o : OddW K H v d) : badKw K (kv2 "a" (V.str "notes") "other" v) H := by
  refine ⟨by show slf ∉ ([("a" : S), "other"] : List S); decide +kernel, by show ([("a" : S), "other"] : List S).Nodup; decide +kernel, by show 2 ≤ 90; decide, ?_⟩
  unfold kv2
  rw [filt_yes an, lk_n an, filt_other, lk_o, putV_new (by show oth ∉ ([("a" : S)] : List S); decide +kernel)]
  exact .word (ds := [.str "notes", d]) (by show 2 ≤ 100; decide) (fun k hk => by
    rcases List.mem_cons.mp hk with rfl | hk
    · exact nm_a
    · rw [List.mem_singleton.mp hk]; exact nm_oth) (.cons (.str _) (.cons o.dp .nil)) (fun x hx => by
    rcases List.mem_cons.mp hx with rfl | hx
    · exact w_sh (x := w2) (by decide +kernel)
    · rw [List.mem_singleton.mp hx]; exact o.sh) (all_no (List.mem_cons_of_mem _ (List.mem_singleton.mpr rfl)) o.no)
theorem badp_A : badKw K (kv1 "A" (V.str "notes")) H := by
  refine ⟨by show slf ∉ ([("A" : S)] : List S); decide +kernel, by show ([("A" : S)] : List S).Nodup; decide +kernel, by show 1 ≤ 90; decide, ?_⟩
  unfold kv1
  rw [filt_yes An, lk_n An, List.filter_nil, putV_new (by show oth ∉ ([("A" : S)] : List S); decide +kernel)]
  exact .kind (by show 2 ≤ 100; decide) (fun k hk => by
    rcases List.mem_cons.mp hk with rfl | hk
    · decide +kernel
    · rw [List.mem_singleton.mp hk]; decide +kernel) (by show List.all [("A" : S), oth] nm = false; decide +kernel)
theorem badw_k {D : Addr} {k : S} {x : V} (hl : k.length ≤ 1000) (hn : nm k = false) (e : H D = some (.dK (nmK (kv1 k x)))) : BadW K H (.ref D) :=
  .kind (kv := kv1 k x) e (by show 1 ≤ 100; decide) (fun j hj => by rw [List.mem_singleton.mp hj]; exact hl) (by
    show (nm k && List.all [] nm) = false
    rw [hn]
    rfl)
end
/-! ### | of another kind, of no context -/
def rBinP (P : Program) (w : World) (K : PySem.W.Frag) (C : Addr) (nm : String) (sp : Sp) (E : XK) : R2 := fun x y H Q => ∃ a dx fs tb, x = .ref a ∧ H a = some (.ins C dx fs) ∧ TyX K H y tb ∧ (∀ h, K.In h → RightT (model P w) h C nm tb) ∧ sp [.ref a, y] H (fun _ _ => False) E
theorem op_binP {X : Cx} {CX : CXT} {n : Nat} {C f : Addr} {fd : FuncData} {ps : List PySem.Str} {sp : Sp} {E : XK} {op : Operator} {rc : Option Value} (m : OwnM X CX n C (PySem.dunder op.info.2) f fd ps sp E) (hc : PySem.W.selfFirst X.K C = true) (hr : PySem.W.findIn X.K (.ref C) (dunderR op.info.2) = some rc) (hp : rc = none ∨ ∃ g : Addr, rc = some (.ref g)) (hrm : Room n X.A) : OpR X (binaryOp op) (rBinP X.prog X.w X.K C op.info.2 sp E) := op_binX m hc hr hp hrm
end M46

/-! _law_is_refused (made by gJY.py). -/
namespace M46
open PySem PySem.Spec PyProof.Rows L2 R0 K1 ClX StX LamX

/-- what the lambdas call -/
structure RE (P : Program) (w : World) (K : PySem.W.Frag) (mg : S → Option Value) (base : Heap) (CM CR CL CIM CIN CIO fO pO fEv pEv fIn fG fWi fOr fAn fA fPk fRf P1 c : Addr) (mc : Value) (fdG fdWi fdOr fdAn fdA fdPk fdRf : FuncData) : Prop where
  T : Bare mg
  O : OddF P w K CM CR
  cf : ClsF K CM
  im : IsF K CM CM
  hsf : PySem.W.selfFirst K CM = true
  mM : mg "Marking" = some (.ref CM)
  mL : mg "LetterError" = some (.ref CL)
  mIM : mg "InvalidMarking" = some (.ref CIM)
  mIN : mg "InvalidName" = some (.ref CIN)
  mIO : mg "InvalidOperation" = some (.ref CIO)
  rM : Refd K CL CIM CIN CIO CIM true false false
  rN : Refd K CL CIM CIN CIO CIN false true false
  rO : Refd K CL CIM CIN CIO CIO false false true
  cr : CRead K CM mc
  cO : CMet K CM mc "of" pO fO
  GO : FnR P w K mg base (L2.CX P w) 6 fO (spOfX K CM CIM)
  cE : CMet K CM mc "even" pEv fEv
  GE : FnR P w K mg base (L2.CX P w) 6 fEv (spEvenX K CM CIM)
  MM : Mk K CM fIn
  GM : FnW P w K mg base (L2.CX P w) 4 fIn (spW "self" "other" (V.str w0) (spInitX K CIM))
  GG : FnOk P w K mg base (L2.CX P w) 2 fG fdG ["self", "at"] (spGetX K CIN)
  bG : Binds K fdG ["self", "at"] []
  sG : PySem.W.findIn K (.ref CM) "__getitem__" = some (some (.ref fG))
  nG : PySem.W.isFn K (.ref fG) = true
  iG : PySem.W.fnIn K fG = true
  GW : FnOk P w K mg base (L2.CX P w) 7 fWi fdWi ["self", "kind", "word"] (spWithX K CM CIM CIN)
  bW : Binds K fdWi ["self", "kind", "word"] []
  mW : Meth K CM "with_word" fWi
  GOr : FnOk P w K mg base (L2.CX P w) 4 fOr fdOr ["self", "other"] (spJoinX K CM CIO)
  bOr : Binds K fdOr ["self", "other"] []
  sOr : PySem.W.findIn K (.ref CM) (PySem.dunder (Operator.info .BitOr).2) = some (some (.ref fOr))
  nOr : PySem.W.isFn K (.ref fOr) = true
  rOr : PySem.W.findIn K (.ref CM) (dunderR (Operator.info .BitOr).2) = some none
  GAn : FnOk P w K mg base (L2.CX P w) 4 fAn fdAn ["self", "other"] (spJoinX K CM CIO)
  bAn : Binds K fdAn ["self", "other"] []
  sAn : PySem.W.findIn K (.ref CM) (PySem.dunder (Operator.info .BitAnd).2) = some (some (.ref fAn))
  nAn : PySem.W.isFn K (.ref fAn) = true
  rAn : PySem.W.findIn K (.ref CM) (dunderR (Operator.info .BitAnd).2) = some none
  GP : FnOk P w K mg base CX0 2 fPk fdPk ["_law_dice_here", "_law_items"] spPick
  bP : Binds K fdPk ["_law_dice_here", "_law_items"] []
  kP : PySem.W.keepIn K (.ref fPk) = true
  mP : mg "_law_pick" = some (.ref fPk)
  FRf : Fun K "_law_refused" "_law_refused" sRefused fRf fdRf
  bRf : Binds K fdRf ["_law_call"] []
  mRf : mg "_law_refused" = some (.ref fRf)
  TB : TabB base mg c P1
  GA : FnOk P w K mg base CX0 1 fA fdA ["self", "value"] (spAtMostNo K CM)
  bA : Binds K fdA ["self", "value"] []
  mA : Meth K CM "is_at_most" fA
  dN : PySem.W.kitOne K (.type "NoneType") (.type "dict") = some false
  dI : PySem.W.kitOne K (.type "int") (.type "dict") = some false
  dS : PySem.W.kitOne K (.type "str") (.type "dict") = some false
  dL : PySem.W.kitOne K (.type "list") (.type "dict") = some false
  dT : PySem.W.kitOne K (.type "tuple") (.type "dict") = some false
  dM : PySem.W.kitOne K (.ref CM) (.type "dict") = some false
theorem same_upd2 {H : Hp} {q : Addr} {o o' : HO} (n : H q = none) : Same H (upd (upd H q o) q o') := fun b u e => by
  have z : b ≠ q := ne_of_none e n
  rw [upd_ne z, upd_ne z]
  exact e
theorem tail_next {K : PySem.W.Frag} {CM CR p a L : Addr} {T : List (Addr × S)} {H H1 : Hp} {val word : V} {kind : S} {n : Nat} {x : S} {v1 v3 v8 : Option V} {D : Ends} (h : dueL[n]? = some x) (k : ∀ x y z H', Dice H' p x y z → Far p L H H' → Tabs T H' → D.rt (.bl true) H') (f : Far p L H H1) (S : Sta K CM CR T H1 p a L val word kind n) :
    rAppend (.ref L) [.str x] H1 fun _ H' => tTold K CM CR T (n + 1) D [some (.ref p), v1, some (.ref a), v3, some val, some (.ref L), some word, some (.str kind), v8] H' :=
  ⟨L, toldV n, .str x, rfl, rfl, S.told, by have := @told_len n; rw [sizeLine_eq]; omega, p, a, L, val, word, kind, v1, v3, v8, rfl, S.next h, fun x y z H' D' f' t => k x y z H' D' ((f.trans Far.upd).trans f') t⟩
section
variable {P : Program} {w : World} {K : PySem.W.Frag} {mg : S → Option Value} {base : Heap} {CM CR CL CIM CIN CIO fO pO fEv pEv fIn fG fWi fOr fAn fA fPk fRf P1 c f : Addr} {mc : Value} {fdG fdWi fdOr fdAn fdA fdPk fdRf : FuncData} {A : Around} {outer : List Env} {s : Shared} {H0 : Hp} {E0 : XK}
theorem ref_17 (hr : Room 9 (A.deeper (envOfC "_law_is_refused" (defScope sIsRef) s.heap.objs.size f (.ref c)))) (R : RE P w K mg base CM CR CL CIM CIN CIO fO pO fEv pEv fIn fG fWi fOr fAn fA fPk fRf P1 c mc fdG fdWi fdOr fdAn fdA fdPk fdRf) :
    PSs (cxOf CX0 P w K mg base nIR "_law_is_refused" (defScope sIsRef) f (.ref c) A outer s H0 E0).nox ((defBody sIsRef).drop 17) (tTold K CM CR [(P1, qL)] 13) := by
  refine pss_conv (pss_cons (ps_set (i := 8) scIR.nd rfl (Or.inl rfl) (pe_op op_cat (pe_op op_cat (pe_op op_rep (pe_lst (pa_cons pe_str pa_nil)) pe_int) (pe_op op_rep (pe_lst (pa_cons pe_str pa_nil)) pe_int)) (pe_lst (pa_cons pe_str (pa_cons pe_str (pa_cons pe_str (pa_cons pe_str pa_nil)))))))
    (pss_one (ps_ret (pe_and (pe_cmpR (op_eqD hr.units) (pv 5) (pv 8) (nomark _)) (pe_one (pe_cmpR op_isBl (pe_meth (pv 2) R.cf.cl R.mA R.GA (hr.mono (by decide)) R.bA .nil pass0 (pa_cons (pv 4) pa_nil)) pe_bl (nomark _))))))) fun pins s1 σ H D I h => ?_
  obtain ⟨p, a, L, val, word, kind, v1, v3, v8, rfl, S, k⟩ := h
  have hz : (1000 : Nat) ≤ sizeLine := by rw [sizeLine_eq]; decide
  refine ⟨by show 1 ≤ sizeLine; omega, fun l1 n1 => ?_⟩
  have s1 : Same H (upd H l1 (.lst [V.str "operation"])) := same_upd n1
  have e1 : (upd H l1 (.lst [V.str "operation"])) l1 = some (.lst [V.str "operation"]) := upd_same
  generalize upd H l1 (.lst [V.str "operation"]) = G1 at s1 e1 ⊢
  refine ⟨l1, 2, _, rfl, rfl, e1, by decide, by decide, by show 2 ≤ sizeLine; omega, fun l2 n2 => ?_⟩
  have s2 := s1.trans (same_upd (o := .lst (List.replicate (2 : Int).toNat [V.str "operation"]).flatten) n2)
  have e2 : (upd G1 l2 (.lst (List.replicate (2 : Int).toNat [V.str "operation"]).flatten)) l2 = some (.lst [.str "operation", .str "operation"]) := upd_same
  generalize upd G1 l2 (.lst (List.replicate (2 : Int).toNat [V.str "operation"]).flatten) = G2 at s2 e2 ⊢
  refine ⟨by show 1 ≤ sizeLine; omega, fun l3 n3 => ?_⟩
  have s3 := s2.trans (same_upd (o := .lst [V.str "marking"]) n3)
  have t3 := same_upd (o := .lst [V.str "marking"]) n3 _ _ e2
  have e3 : (upd G2 l3 (.lst [V.str "marking"])) l3 = some (.lst [V.str "marking"]) := upd_same
  generalize upd G2 l3 (.lst [V.str "marking"]) = G3 at s3 t3 e3 ⊢
  refine ⟨l3, 7, _, rfl, rfl, e3, by decide, by decide, by show 7 ≤ sizeLine; omega, fun l4 n4 => ?_⟩
  have s4 := s3.trans (same_upd (o := .lst (List.replicate (7 : Int).toNat [V.str "marking"]).flatten) n4)
  have t4 := same_upd (o := .lst (List.replicate (7 : Int).toNat [V.str "marking"]).flatten) n4 _ _ t3
  have e4 : (upd G3 l4 (.lst (List.replicate (7 : Int).toNat [V.str "marking"]).flatten)) l4 = some (.lst [.str "marking", .str "marking", .str "marking", .str "marking", .str "marking", .str "marking", .str "marking"]) := upd_same
  generalize upd G3 l4 (.lst (List.replicate (7 : Int).toNat [V.str "marking"]).flatten) = G4 at s4 t4 e4 ⊢
  refine ⟨l2, l4, _, _, rfl, rfl, t4, e4, by show 9 ≤ sizeLine; omega, fun l5 n5 => ?_⟩
  have s5 := s4.trans (same_upd (o := .lst ([V.str "operation", .str "operation"] ++ [.str "marking", .str "marking", .str "marking", .str "marking", .str "marking", .str "marking", .str "marking"])) n5)
  have e5 : (upd G4 l5 (.lst ([V.str "operation", .str "operation"] ++ [.str "marking", .str "marking", .str "marking", .str "marking", .str "marking", .str "marking", .str "marking"]))) l5 = some (.lst [V.str "operation", .str "operation", .str "marking", .str "marking", .str "marking", .str "marking", .str "marking", .str "marking", .str "marking"]) := upd_same
  generalize upd G4 l5 (.lst ([V.str "operation", .str "operation"] ++ [.str "marking", .str "marking", .str "marking", .str "marking", .str "marking", .str "marking", .str "marking"])) = G5 at s5 e5 ⊢
  refine ⟨by show 4 ≤ sizeLine; omega, fun l6 n6 => ?_⟩
  have s6 := s5.trans (same_upd (o := .lst [V.str "name", .str "name", .str "marking", .str "marking"]) n6)
  have t6 := same_upd (o := .lst [V.str "name", .str "name", .str "marking", .str "marking"]) n6 _ _ e5
  have e6 : (upd G5 l6 (.lst [V.str "name", .str "name", .str "marking", .str "marking"])) l6 = some (.lst [V.str "name", .str "name", .str "marking", .str "marking"]) := upd_same
  generalize upd G5 l6 (.lst [V.str "name", .str "name", .str "marking", .str "marking"]) = G6 at s6 t6 e6 ⊢
  refine ⟨l5, l6, _, _, rfl, rfl, t6, e6, by show 13 ≤ sizeLine; omega, fun l7 n7 => ?_⟩
  have s7 := s6.trans (same_upd (o := .lst (dueL.map V.str)) n7)
  have e7 : (upd G6 l7 (.lst (dueL.map V.str))) l7 = some (.lst (dueL.map V.str)) := upd_same
  have S7 := S.same s7
  change gName 8 _ _ (upd G6 l7 (.lst (dueL.map V.str))) _
  generalize upd G6 l7 (.lst (dueL.map V.str)) = G at s7 e7 S7 ⊢
  have hsh : SeqAt.shaped (.list (dueL.map PyData.str)) = true := by decide +kernel
  obtain ⟨ks, g, hks, mk⟩ := S7.m
  obtain ⟨dx, fsd, ia⟩ := mk.ins
  obtain ⟨t, ty, kt, _, _⟩ := ov_ty R.O S7.ov
  refine ⟨_, rfl, _, rfl, .list (dueL.map PyData.str), .list (dueL.map PyData.str), .lst (SqL.of (xs := dueL.map V.str) S7.told) (dp_strs dueL), .lst (SqL.of (xs := dueL.map V.str) e7) (dp_strs dueL), hsh, hsh, _, rfl, ?_⟩
  rw [SeqAt.eqv_refl _ (SeqAt.canLay_of_shaped hsh)]
  refine ⟨_, rfl, a, dx, _, rfl, ia, no_lk (by decide +kernel) (by decide +kernel), _, rfl, .ref a, val, t, rfl, ty, kt, false, false, rfl, rfl, ?_⟩
  obtain ⟨x, y, z, D7⟩ := S7.dice
  exact k x y z _ D7 (Far.ext (ext_of s7)) S7.tabs
theorem ref_16 (hr : Room 9 (A.deeper (envOfC "_law_is_refused" (defScope sIsRef) s.heap.objs.size f (.ref c)))) (R : RE P w K mg base CM CR CL CIM CIN CIO fO pO fEv pEv fIn fG fWi fOr fAn fA fPk fRf P1 c mc fdG fdWi fdOr fdAn fdA fdPk fdRf) :
    PSs (cxOf CX0 P w K mg base nIR "_law_is_refused" (defScope sIsRef) f (.ref c) A outer s H0 E0).nox ((defBody sIsRef).drop 16) (tTold K CM CR [(P1, qL)] 12) := by
  have L := ref_17 (f := f) (outer := outer) (s := s) (H0 := H0) (E0 := E0) hr R
  obtain ⟨oc, od, kV, doc, pm, ann, cdvT, ct, osl, rfl, lkT, hcT⟩ := R.FRf.ex
  refine pss_conv (pss_cons (ps_expr (pe_bm PySem.F.plainAttrs_list PySem.F.slot_list_append PySem.F.type_list_append mt_append (pv 5) (pa_cons (pe_lamcall (T := [(P1, qL)]) (TT := TRef K CL CIM CIN CIO) (x := "_law_refused") (a := "_law_call") (k := 7) (t := fun E => tCMeth CM (spOfX K CM CIM) E (tC (.ref CM)) (tCons (tCall spPick [] L2.E0 (tCons (tVar 0) (tCons (tLst (tCons (tC .non) (tCons (tC (.int 0)) (tCons (tC (.str "notes")) (tCons (tLst (tCons (tTup (tCons (tC (.str "a")) (tCons (tC (.str "notes")) tNil))) tNil)) (tCons (tTup tNil) (tCons (tVar 2) tNil))))))) tNil))) tNil)) (by rfl) R.mRf R.FRf.kp lkT hcT R.bRf scRef rfl (.inl rfl) (ref_gives R.mL R.mIM R.mIN R.mIO R.T.isi) R.TB rfl (.head _) tb1 hr (lamS_by (by rfl)) rfl (fun _ _ _ _ _ => rfl) (fun A outer s H E f c1 hr2 => pe_cmeth (E := E) (pe_glob (v := .ref CM) rfl R.mM rfl) R.cr R.cO R.GO (hr2.mono (by decide)) (passes_call (takes_of rfl rfl rfl rfl) fun _ _ _ _ h => h) (pa_cons (pe_call R.GP (hr2.mono (by decide)) (by rfl) R.mP R.kP R.bP .nil pass0 (pa_cons (pv 0) (pa_cons (pe_lst (pa_cons pe_non (pa_cons pe_int (pa_cons pe_str (pa_cons (pe_lst (pa_cons (pe_tup (pa_cons pe_str (pa_cons pe_str pa_nil))) pa_nil)) (pa_cons (pe_tup pa_nil) (pa_cons (pv 2) pa_nil))))))) pa_nil))) pa_nil))) pa_nil))) L) fun pins s1 σ H D I h => ?_
  clear L
  obtain ⟨p, a, L, val, word, kind, v1, v3, v8, rfl, S, k⟩ := h
  refine ⟨_, rfl, .inl ⟨rfl, _, SqL.of S.told⟩, S.tabs, fun H1 e1 T1 => ?_⟩
  have S1 := S.ext e1 T1
  obtain ⟨ks, g, hks, mk⟩ := S1.m
  obtain ⟨dx, fsd, ia⟩ := mk.ins
  obtain ⟨x, y, z, D0⟩ := S1.dice
  refine ⟨rfl, _, rfl, by show 2 ≤ sizeLine; rw [sizeLine_eq]; decide, fun t1 nt1 => ⟨by show 1 ≤ sizeLine; rw [sizeLine_eq]; decide, fun l1 nl1 => ⟨by show 0 ≤ sizeLine; exact Nat.zero_le _, fun t2 nt2 => ⟨_, rfl, by show 6 ≤ sizeLine; rw [sizeLine_eq]; decide, fun l2 nl2 => ?_⟩⟩⟩⟩
  have s1 := (((same_upd (o := .tup [.str "a", .str "notes"]) nt1).trans (same_upd (o := .lst [.ref t1]) nl1)).trans (same_upd (o := .tup []) nt2)).trans (same_upd (o := .lst [.non, .int 0, .str "notes", .ref l1, .ref t2, .ref a]) nl2)
  have e2 := same_upd (o := .lst [.non, .int 0, .str "notes", .ref l1, .ref t2, .ref a]) nl2 _ _ (same_upd (o := .tup []) nt2 _ _ (upd_same (H := upd H1 t1 (.tup [.str "a", .str "notes"])) (a := l1) (o := .lst [.ref t1])))
  have e3 := same_upd (o := .lst [.non, .int 0, .str "notes", .ref l1, .ref t2, .ref a]) nl2 _ _ (upd_same (H := upd (upd H1 t1 (.tup [.str "a", .str "notes"])) l1 (.lst [.ref t1])) (a := t2) (o := .tup []))
  have e4 := s1 _ _ ia
  have D1 := D0.same s1
  have S2 := S1.same s1
  have nl2' : p ≠ l2 := ne_of_none ((((same_upd (o := .tup [.str "a", .str "notes"]) nt1).trans (same_upd (o := .lst [.ref t1]) nl1)).trans (same_upd (o := .tup []) nt2)) _ _ D0.at_) nl2
  refine ⟨p, l2, x, y, z, [.non, .int 0, .str "notes", .ref l1, .ref t2, .ref a], rfl, D1, nl2', upd_same, by show 0 < 6; decide, by show 6 < 1000; decide, fun j v x' z' H2 hj D2 _ b2 => ?_⟩
  have f2 : Far p L H1 H2 := (Far.ext (ext_of s1)).trans (Far.but b2)
  have S3 := S1.far f2 ⟨_, _, _, D2⟩ (tabs_but D1 S2.tabs b2) (b2 _ _ S1.npL.symm S2.told) S1.pos
  have bad : BadW K H2 v := by
    match j, hj with
    | 0, hj => cases hj; exact .no (.base .non) R.dN
    | 1, hj => cases hj; exact .no (.base (.int _)) R.dI
    | 2, hj => cases hj; exact .no (.base (.str _)) R.dS
    | 3, hj => cases hj; exact .no (.base (.lst (b2 _ _ (ne_of e2 D1.at_ fun z => by cases z) e2))) R.dL
    | 4, hj => cases hj; exact .no (.base (.tup (b2 _ _ (ne_of e3 D1.at_ fun z => by cases z) e3))) R.dT
    | 5, hj => cases hj; exact .no (.base (.ins (b2 _ _ (ne_of e4 D1.at_ fun z => by cases z) e4) R.cf.cl R.im.ha R.im.hn R.im.htk R.im.hm)) R.dM
    | j + 6, hj => cases hj
  refine ⟨v, rfl, bad, fun H3 s3 => ⟨CIM, true, false, false, rfl, rfl, R.rM, fun H4 s4 => ?_⟩⟩
  exact tail_next rfl k (((Far.ext e1).trans f2).trans (Far.ext (ext_of (s3.trans s4)))) (S3.same (s3.trans s4))
theorem ref_15 (hr : Room 9 (A.deeper (envOfC "_law_is_refused" (defScope sIsRef) s.heap.objs.size f (.ref c)))) (R : RE P w K mg base CM CR CL CIM CIN CIO fO pO fEv pEv fIn fG fWi fOr fAn fA fPk fRf P1 c mc fdG fdWi fdOr fdAn fdA fdPk fdRf) :
    PSs (cxOf CX0 P w K mg base nIR "_law_is_refused" (defScope sIsRef) f (.ref c) A outer s H0 E0).nox ((defBody sIsRef).drop 15) (tTold K CM CR [(P1, qL)] 11) := by
  have L := ref_16 (f := f) (outer := outer) (s := s) (H0 := H0) (E0 := E0) hr R
  obtain ⟨oc, od, kV, doc, pm, ann, cdvT, ct, osl, rfl, lkT, hcT⟩ := R.FRf.ex
  refine pss_conv (pss_cons (ps_expr (pe_bm PySem.F.plainAttrs_list PySem.F.slot_list_append PySem.F.type_list_append mt_append (pv 5) (pa_cons (pe_lamcall (T := [(P1, qL)]) (TT := TRef K CL CIM CIN CIO) (x := "_law_refused") (a := "_law_call") (k := 7) (t := fun E => tMeth CM "with_word" (spWithX K CM CIM CIN) [] E (tVar 2) (tCons (tC (.str "a")) (tCons (tVar 6) tNil))) (by rfl) R.mRf R.FRf.kp lkT hcT R.bRf scRef rfl (.inl rfl) (ref_gives R.mL R.mIM R.mIN R.mIO R.T.isi) R.TB rfl (.head _) tb1 hr (lamS_by (by rfl)) rfl (fun _ _ _ _ _ => rfl) (fun A outer s H E f c1 hr2 => pe_meth (E := E) (pv 2) R.cf.cl R.mW R.GW hr2 R.bW .nil (passes_call (takes_of rfl rfl rfl rfl) fun _ _ _ _ h => h) (pa_cons pe_str (pa_cons (pv 6) pa_nil)))) pa_nil))) L) fun pins s1 σ H D I h => ?_
  clear L
  obtain ⟨p, a, L, val, word, kind, v1, v3, v8, rfl, S, k⟩ := h
  refine ⟨_, rfl, .inl ⟨rfl, _, SqL.of S.told⟩, S.tabs, fun H1 e1 T1 => ?_⟩
  have S1 := S.ext e1 T1
  obtain ⟨ks, g, hks, mk⟩ := S1.m
  obtain ⟨dx, fsd, ia⟩ := mk.ins
  obtain ⟨d, od⟩ := ow_odd (K := K) S1.ow
  obtain ⟨ws, h1, h2, h3, h4, h5, h6⟩ := id mk
  have h7 := Mrk.len (C := CM) (H := H1) (a := a) (g := g) hks h3 h5
  refine ⟨_, rfl, a, dx, _, rfl, ia, no_lk (by decide +kernel) (by decide +kernel), _, rfl, a, "a", word, rfl, by decide +kernel, .inr ⟨nm_a, an, ws, g oth, d, h1, h2, h3, h4, by omega, od, fun H2 s2 => ⟨CIM, true, false, false, rfl, rfl, R.rM, fun H3 s3 => ?_⟩⟩⟩
  exact tail_next rfl k ((Far.ext e1).trans (Far.ext (ext_of (s2.trans s3)))) (S1.same (s2.trans s3))
theorem ref_14 (hr : Room 9 (A.deeper (envOfC "_law_is_refused" (defScope sIsRef) s.heap.objs.size f (.ref c)))) (R : RE P w K mg base CM CR CL CIM CIN CIO fO pO fEv pEv fIn fG fWi fOr fAn fA fPk fRf P1 c mc fdG fdWi fdOr fdAn fdA fdPk fdRf) :
    PSs (cxOf CX0 P w K mg base nIR "_law_is_refused" (defScope sIsRef) f (.ref c) A outer s H0 E0).nox ((defBody sIsRef).drop 14) (tTold K CM CR [(P1, qL)] 10) := by
  have L := ref_15 (f := f) (outer := outer) (s := s) (H0 := H0) (E0 := E0) hr R
  obtain ⟨oc, od, kV, doc, pm, ann, cdvT, ct, osl, rfl, lkT, hcT⟩ := R.FRf.ex
  refine pss_conv (pss_cons (ps_expr (pe_bm PySem.F.plainAttrs_list PySem.F.slot_list_append PySem.F.type_list_append mt_append (pv 5) (pa_cons (pe_lamcall (T := [(P1, qL)]) (TT := TRef K CL CIM CIN CIO) (x := "_law_refused") (a := "_law_call") (k := 7) (t := fun E => tMeth CM "with_word" (spWithX K CM CIM CIN) [] E (tVar 2) (tCons (tVar 7) (tCons (tVar 6) tNil))) (by rfl) R.mRf R.FRf.kp lkT hcT R.bRf scRef rfl (.inl rfl) (ref_gives R.mL R.mIM R.mIN R.mIO R.T.isi) R.TB rfl (.head _) tb1 hr (lamS_by (by rfl)) rfl (fun _ _ _ _ _ => rfl) (fun A outer s H E f c1 hr2 => pe_meth (E := E) (pv 2) R.cf.cl R.mW R.GW hr2 R.bW .nil (passes_call (takes_of rfl rfl rfl rfl) fun _ _ _ _ h => h) (pa_cons (pv 7) (pa_cons (pv 6) pa_nil)))) pa_nil))) L) fun pins s1 σ H D I h => ?_
  clear L
  obtain ⟨p, a, L, val, word, kind, v1, v3, v8, rfl, S, k⟩ := h
  refine ⟨_, rfl, .inl ⟨rfl, _, SqL.of S.told⟩, S.tabs, fun H1 e1 T1 => ?_⟩
  have S1 := S.ext e1 T1
  obtain ⟨ks, g, hks, mk⟩ := S1.m
  obtain ⟨dx, fsd, ia⟩ := mk.ins
  refine ⟨_, rfl, a, dx, _, rfl, ia, no_lk (by decide +kernel) (by decide +kernel), _, rfl, _, rfl, a, kind, word, rfl, S1.kl, .inl ⟨S1.kn, CIN, false, true, false, rfl, rfl, R.rN, fun H3 s3 => ?_⟩⟩
  exact tail_next rfl k ((Far.ext e1).trans (Far.ext (ext_of s3))) (S1.same s3)
theorem ref_13 (hr : Room 9 (A.deeper (envOfC "_law_is_refused" (defScope sIsRef) s.heap.objs.size f (.ref c)))) (R : RE P w K mg base CM CR CL CIM CIN CIO fO pO fEv pEv fIn fG fWi fOr fAn fA fPk fRf P1 c mc fdG fdWi fdOr fdAn fdA fdPk fdRf) :
    PSs (cxOf CX0 P w K mg base nIR "_law_is_refused" (defScope sIsRef) f (.ref c) A outer s H0 E0).nox ((defBody sIsRef).drop 13) (tTold K CM CR [(P1, qL)] 9) := by
  have L := ref_14 (f := f) (outer := outer) (s := s) (H0 := H0) (E0 := E0) hr R
  obtain ⟨oc, od, kV, doc, pm, ann, cdvT, ct, osl, rfl, lkT, hcT⟩ := R.FRf.ex
  refine pss_conv (pss_cons (ps_expr (pe_bm PySem.F.plainAttrs_list PySem.F.slot_list_append PySem.F.type_list_append mt_append (pv 5) (pa_cons (pe_lamcall (T := [(P1, qL)]) (TT := TRef K CL CIM CIN CIO) (x := "_law_refused") (a := "_law_call") (k := 7) (t := fun E => tOp (rIxO CM (spGetX K CIN) E) (tVar 2) (tVar 7)) (by rfl) R.mRf R.FRf.kp lkT hcT R.bRf scRef rfl (.inl rfl) (ref_gives R.mL R.mIM R.mIN R.mIO R.T.isi) R.TB rfl (.head _) tb1 hr (lamS_by (by rfl)) rfl (fun _ _ _ _ _ => rfl) (fun A outer s H E f c1 hr2 => pe_ixO ⟨R.GG, R.bG, (passes_call (takes_of rfl rfl rfl rfl) fun _ _ _ _ h => h), R.sG, R.nG⟩ R.iG (hr2.mono (by decide)) (pv 2) (pv 7))) pa_nil))) L) fun pins s1 σ H D I h => ?_
  clear L
  obtain ⟨p, a, L, val, word, kind, v1, v3, v8, rfl, S, k⟩ := h
  refine ⟨_, rfl, .inl ⟨rfl, _, SqL.of S.told⟩, S.tabs, fun H1 e1 T1 => ?_⟩
  have S1 := S.ext e1 T1
  obtain ⟨ks, g, hks, mk⟩ := S1.m
  obtain ⟨dx, fsd, ia⟩ := mk.ins
  refine ⟨_, rfl, _, rfl, a, dx, _, rfl, ia, a, kind, rfl, S1.kl, S1.kn, CIN, false, true, false, rfl, rfl, R.rN, fun H3 s3 => ?_⟩
  exact tail_next rfl k ((Far.ext e1).trans (Far.ext (ext_of s3))) (S1.same s3)
theorem ref_12 (hr : Room 9 (A.deeper (envOfC "_law_is_refused" (defScope sIsRef) s.heap.objs.size f (.ref c)))) (R : RE P w K mg base CM CR CL CIM CIN CIO fO pO fEv pEv fIn fG fWi fOr fAn fA fPk fRf P1 c mc fdG fdWi fdOr fdAn fdA fdPk fdRf) :
    PSs (cxOf CX0 P w K mg base nIR "_law_is_refused" (defScope sIsRef) f (.ref c) A outer s H0 E0).nox ((defBody sIsRef).drop 12) (tTold K CM CR [(P1, qL)] 8) := by
  have L := ref_13 (f := f) (outer := outer) (s := s) (H0 := H0) (E0 := E0) hr R
  obtain ⟨oc, od, kV, doc, pm, ann, cdvT, ct, osl, rfl, lkT, hcT⟩ := R.FRf.ex
  refine pss_conv (pss_cons (ps_expr (pe_bm PySem.F.plainAttrs_list PySem.F.slot_list_append PySem.F.type_list_append mt_append (pv 5) (pa_cons (pe_lamcall (T := [(P1, qL)]) (TT := TRef K CL CIM CIN CIO) (x := "_law_refused") (a := "_law_call") (k := 7) (t := fun E => tCMeth CM (spOfX K CM CIM) E (tC (.ref CM)) (tCons (tDisp [(tVar 7, tC (.str "notes"))]) tNil)) (by rfl) R.mRf R.FRf.kp lkT hcT R.bRf scRef rfl (.inl rfl) (ref_gives R.mL R.mIM R.mIN R.mIO R.T.isi) R.TB rfl (.head _) tb1 hr (lamS_by (by rfl)) rfl (fun _ _ _ _ _ => rfl) (fun A outer s H E f c1 hr2 => pe_cmeth (E := E) (pe_glob (v := .ref CM) rfl R.mM rfl) R.cr R.cO R.GO (hr2.mono (by decide)) (passes_call (takes_of rfl rfl rfl rfl) fun _ _ _ _ h => h) (pa_cons (pe_disp (pps_cons (pv 7) pe_str pps_nil) (by rfl) (by rfl) (fun z => by cases z) (by decide)) pa_nil))) pa_nil))) L) fun pins s1 σ H D I h => ?_
  clear L
  obtain ⟨p, a, L, val, word, kind, v1, v3, v8, rfl, S, k⟩ := h
  refine ⟨_, rfl, .inl ⟨rfl, _, SqL.of S.told⟩, S.tabs, fun H1 e1 T1 => ?_⟩
  have S1 := S.ext e1 T1
  refine ⟨rfl, fun q nq => ?_⟩
  have s0 : ∀ o o', Same H1 (upd (upd H1 q o) q o') := fun o o' => same_upd2 nq
  refine ⟨_, rfl, upd_same, nmK (kv1 kind (V.str "notes")), rfl, by show 1 ≤ 15; decide, _, rfl, badw_k S1.kl S1.kn upd_same, fun H2 s2 => ⟨CIM, true, false, false, rfl, rfl, R.rM, fun H3 s3 => ?_⟩⟩
  exact tail_next rfl k ((Far.ext e1).trans (Far.ext (ext_of (((s0 _ _).trans s2).trans s3)))) (S1.same (((s0 _ _).trans s2).trans s3))
theorem ref_11 (hr : Room 9 (A.deeper (envOfC "_law_is_refused" (defScope sIsRef) s.heap.objs.size f (.ref c)))) (R : RE P w K mg base CM CR CL CIM CIN CIO fO pO fEv pEv fIn fG fWi fOr fAn fA fPk fRf P1 c mc fdG fdWi fdOr fdAn fdA fdPk fdRf) :
    PSs (cxOf CX0 P w K mg base nIR "_law_is_refused" (defScope sIsRef) f (.ref c) A outer s H0 E0).nox ((defBody sIsRef).drop 11) (tTold K CM CR [(P1, qL)] 7) := by
  have L := ref_12 (f := f) (outer := outer) (s := s) (H0 := H0) (E0 := E0) hr R
  obtain ⟨oc, od, kV, doc, pm, ann, cdvT, ct, osl, rfl, lkT, hcT⟩ := R.FRf.ex
  refine pss_conv (pss_cons (ps_expr (pe_bm PySem.F.plainAttrs_list PySem.F.slot_list_append PySem.F.type_list_append mt_append (pv 5) (pa_cons (pe_lamcall (T := [(P1, qL)]) (TT := TRef K CL CIM CIN CIO) (x := "_law_refused") (a := "_law_call") (k := 7) (t := fun E => (fun σ H Q => (tCons (tC (.str "notes")) tNil) σ H fun zs H1 => rMakeW CM (spW "self" "other" (V.str w0) (spInitX K CIM)) E ((["A"] : List S).zip zs) H1 Q)) (by rfl) R.mRf R.FRf.kp lkT hcT R.bRf scRef rfl (.inl rfl) (ref_gives R.mL R.mIM R.mIN R.mIO R.T.isi) R.TB rfl (.head _) tb1 hr (lamS_by (by rfl)) rfl (fun _ _ _ _ _ => rfl) (fun A outer s H E f c1 hr2 => pe_makeKV (E := E) (ks := ["A"]) R.MM R.GM (hr2.mono (by decide)) rfl R.mM (passes_call (takes_of rfl rfl rfl rfl) fun _ _ _ _ h => h) (pk_cons pe_str pk_nil))) pa_nil))) L) fun pins s1 σ H D I h => ?_
  clear L
  obtain ⟨p, a, L, val, word, kind, v1, v3, v8, rfl, S, k⟩ := h
  refine ⟨_, rfl, .inl ⟨rfl, _, SqL.of S.told⟩, S.tabs, fun H1 e1 T1 => ?_⟩
  have S1 := S.ext e1 T1
  dsimp only [TRef, tCons, tNil, tC]
  refine make_bad (kv := kv1 "A" (V.str "notes")) badp_A (fun H2 s2 => ⟨CIM, true, false, false, rfl, rfl, R.rM, fun H3 s3 => ?_⟩)
  exact tail_next rfl k ((Far.ext e1).trans (Far.ext (ext_of (s2.trans s3)))) (S1.same (s2.trans s3))
theorem ref_10 (hr : Room 9 (A.deeper (envOfC "_law_is_refused" (defScope sIsRef) s.heap.objs.size f (.ref c)))) (R : RE P w K mg base CM CR CL CIM CIN CIO fO pO fEv pEv fIn fG fWi fOr fAn fA fPk fRf P1 c mc fdG fdWi fdOr fdAn fdA fdPk fdRf) :
    PSs (cxOf CX0 P w K mg base nIR "_law_is_refused" (defScope sIsRef) f (.ref c) A outer s H0 E0).nox ((defBody sIsRef).drop 10) (tTold K CM CR [(P1, qL)] 6) := by
  have L := ref_11 (f := f) (outer := outer) (s := s) (H0 := H0) (E0 := E0) hr R
  obtain ⟨oc, od, kV, doc, pm, ann, cdvT, ct, osl, rfl, lkT, hcT⟩ := R.FRf.ex
  refine pss_conv (pss_cons (ps_expr (pe_bm PySem.F.plainAttrs_list PySem.F.slot_list_append PySem.F.type_list_append mt_append (pv 5) (pa_cons (pe_lamcall (T := [(P1, qL)]) (TT := TRef K CL CIM CIN CIO) (x := "_law_refused") (a := "_law_call") (k := 7) (t := fun E => (fun σ H Q => (tCons (tC (.str "notes")) (tCons (tVar 6) tNil)) σ H fun zs H1 => rMakeW CM (spW "self" "other" (V.str w0) (spInitX K CIM)) E ((["a", "other"] : List S).zip zs) H1 Q)) (by rfl) R.mRf R.FRf.kp lkT hcT R.bRf scRef rfl (.inl rfl) (ref_gives R.mL R.mIM R.mIN R.mIO R.T.isi) R.TB rfl (.head _) tb1 hr (lamS_by (by rfl)) rfl (fun _ _ _ _ _ => rfl) (fun A outer s H E f c1 hr2 => pe_makeKV (E := E) (ks := ["a", "other"]) R.MM R.GM (hr2.mono (by decide)) rfl R.mM (passes_call (takes_of rfl rfl rfl rfl) fun _ _ _ _ h => h) (pk_cons pe_str (pk_cons (pv 6) pk_nil)))) pa_nil))) L) fun pins s1 σ H D I h => ?_
  clear L
  obtain ⟨p, a, L, val, word, kind, v1, v3, v8, rfl, S, k⟩ := h
  refine ⟨_, rfl, .inl ⟨rfl, _, SqL.of S.told⟩, S.tabs, fun H1 e1 T1 => ?_⟩
  have S1 := S.ext e1 T1
  obtain ⟨d, od⟩ := ow_odd (K := K) S1.ow
  refine ⟨_, rfl, ?_⟩
  dsimp only [TRef, tCons, tNil, tC]
  refine make_bad (kv := kv2 "a" (V.str "notes") "other" word) (badp_ao od) (fun H2 s2 => ⟨CIM, true, false, false, rfl, rfl, R.rM, fun H3 s3 => ?_⟩)
  exact tail_next rfl k ((Far.ext e1).trans (Far.ext (ext_of (s2.trans s3)))) (S1.same (s2.trans s3))
theorem ref_9 (hr : Room 9 (A.deeper (envOfC "_law_is_refused" (defScope sIsRef) s.heap.objs.size f (.ref c)))) (R : RE P w K mg base CM CR CL CIM CIN CIO fO pO fEv pEv fIn fG fWi fOr fAn fA fPk fRf P1 c mc fdG fdWi fdOr fdAn fdA fdPk fdRf) :
    PSs (cxOf CX0 P w K mg base nIR "_law_is_refused" (defScope sIsRef) f (.ref c) A outer s H0 E0).nox ((defBody sIsRef).drop 9) (tTold K CM CR [(P1, qL)] 5) := by
  have L := ref_10 (f := f) (outer := outer) (s := s) (H0 := H0) (E0 := E0) hr R
  obtain ⟨oc, od, kV, doc, pm, ann, cdvT, ct, osl, rfl, lkT, hcT⟩ := R.FRf.ex
  refine pss_conv (pss_cons (ps_expr (pe_bm PySem.F.plainAttrs_list PySem.F.slot_list_append PySem.F.type_list_append mt_append (pv 5) (pa_cons (pe_lamcall (T := [(P1, qL)]) (TT := TRef K CL CIM CIN CIO) (x := "_law_refused") (a := "_law_call") (k := 7) (t := fun E => (fun σ H Q => (tCons (tVar 6) tNil) σ H fun zs H1 => rMakeW CM (spW "self" "other" (V.str w0) (spInitX K CIM)) E ((["other"] : List S).zip zs) H1 Q)) (by rfl) R.mRf R.FRf.kp lkT hcT R.bRf scRef rfl (.inl rfl) (ref_gives R.mL R.mIM R.mIN R.mIO R.T.isi) R.TB rfl (.head _) tb1 hr (lamS_by (by rfl)) rfl (fun _ _ _ _ _ => rfl) (fun A outer s H E f c1 hr2 => pe_makeKV (E := E) (ks := ["other"]) R.MM R.GM (hr2.mono (by decide)) rfl R.mM (passes_call (takes_of rfl rfl rfl rfl) fun _ _ _ _ h => h) (pk_cons (pv 6) pk_nil))) pa_nil))) L) fun pins s1 σ H D I h => ?_
  clear L
  obtain ⟨p, a, L, val, word, kind, v1, v3, v8, rfl, S, k⟩ := h
  refine ⟨_, rfl, .inl ⟨rfl, _, SqL.of S.told⟩, S.tabs, fun H1 e1 T1 => ?_⟩
  have S1 := S.ext e1 T1
  obtain ⟨d, od⟩ := ow_odd (K := K) S1.ow
  refine ⟨_, rfl, ?_⟩
  dsimp only [TRef, tCons, tNil, tC]
  refine make_bad (kv := kv1 "other" word) (badp_o od) (fun H2 s2 => ⟨CIM, true, false, false, rfl, rfl, R.rM, fun H3 s3 => ?_⟩)
  exact tail_next rfl k ((Far.ext e1).trans (Far.ext (ext_of (s2.trans s3)))) (S1.same (s2.trans s3))
theorem ref_8 (hr : Room 9 (A.deeper (envOfC "_law_is_refused" (defScope sIsRef) s.heap.objs.size f (.ref c)))) (R : RE P w K mg base CM CR CL CIM CIN CIO fO pO fEv pEv fIn fG fWi fOr fAn fA fPk fRf P1 c mc fdG fdWi fdOr fdAn fdA fdPk fdRf) :
    PSs (cxOf CX0 P w K mg base nIR "_law_is_refused" (defScope sIsRef) f (.ref c) A outer s H0 E0).nox ((defBody sIsRef).drop 8) (tTold K CM CR [(P1, qL)] 4) := by
  have L := ref_9 (f := f) (outer := outer) (s := s) (H0 := H0) (E0 := E0) hr R
  obtain ⟨oc, od, kV, doc, pm, ann, cdvT, ct, osl, rfl, lkT, hcT⟩ := R.FRf.ex
  refine pss_conv (pss_cons (ps_expr (pe_bm PySem.F.plainAttrs_list PySem.F.slot_list_append PySem.F.type_list_append mt_append (pv 5) (pa_cons (pe_lamcall (T := [(P1, qL)]) (TT := TRef K CL CIM CIN CIO) (x := "_law_refused") (a := "_law_call") (k := 7) (t := fun E => (fun σ H Q => (tCons (tVar 6) tNil) σ H fun zs H1 => rMakeW CM (spW "self" "other" (V.str w0) (spInitX K CIM)) E ((["a"] : List S).zip zs) H1 Q)) (by rfl) R.mRf R.FRf.kp lkT hcT R.bRf scRef rfl (.inl rfl) (ref_gives R.mL R.mIM R.mIN R.mIO R.T.isi) R.TB rfl (.head _) tb1 hr (lamS_by (by rfl)) rfl (fun _ _ _ _ _ => rfl) (fun A outer s H E f c1 hr2 => pe_makeKV (E := E) (ks := ["a"]) R.MM R.GM (hr2.mono (by decide)) rfl R.mM (passes_call (takes_of rfl rfl rfl rfl) fun _ _ _ _ h => h) (pk_cons (pv 6) pk_nil))) pa_nil))) L) fun pins s1 σ H D I h => ?_
  clear L
  obtain ⟨p, a, L, val, word, kind, v1, v3, v8, rfl, S, k⟩ := h
  refine ⟨_, rfl, .inl ⟨rfl, _, SqL.of S.told⟩, S.tabs, fun H1 e1 T1 => ?_⟩
  have S1 := S.ext e1 T1
  obtain ⟨d, od⟩ := ow_odd (K := K) S1.ow
  refine ⟨_, rfl, ?_⟩
  dsimp only [TRef, tCons, tNil, tC]
  refine make_bad (kv := kv1 "a" word) (badp_a od) (fun H2 s2 => ⟨CIM, true, false, false, rfl, rfl, R.rM, fun H3 s3 => ?_⟩)
  exact tail_next rfl k ((Far.ext e1).trans (Far.ext (ext_of (s2.trans s3)))) (S1.same (s2.trans s3))
theorem ref_7 (hr : Room 9 (A.deeper (envOfC "_law_is_refused" (defScope sIsRef) s.heap.objs.size f (.ref c)))) (R : RE P w K mg base CM CR CL CIM CIN CIO fO pO fEv pEv fIn fG fWi fOr fAn fA fPk fRf P1 c mc fdG fdWi fdOr fdAn fdA fdPk fdRf) :
    PSs (cxOf CX0 P w K mg base nIR "_law_is_refused" (defScope sIsRef) f (.ref c) A outer s H0 E0).nox ((defBody sIsRef).drop 7) (tTold K CM CR [(P1, qL)] 3) := by
  have L := ref_8 (f := f) (outer := outer) (s := s) (H0 := H0) (E0 := E0) hr R
  obtain ⟨oc, od, kV, doc, pm, ann, cdvT, ct, osl, rfl, lkT, hcT⟩ := R.FRf.ex
  refine pss_conv (pss_cons (ps_expr (pe_bm PySem.F.plainAttrs_list PySem.F.slot_list_append PySem.F.type_list_append mt_append (pv 5) (pa_cons (pe_lamcall (T := [(P1, qL)]) (TT := TRef K CL CIM CIN CIO) (x := "_law_refused") (a := "_law_call") (k := 7) (t := fun E => tCMeth CM (spEvenX K CM CIM) E (tC (.ref CM)) (tCons (tVar 6) tNil)) (by rfl) R.mRf R.FRf.kp lkT hcT R.bRf scRef rfl (.inl rfl) (ref_gives R.mL R.mIM R.mIN R.mIO R.T.isi) R.TB rfl (.head _) tb1 hr (lamS_by (by rfl)) rfl (fun _ _ _ _ _ => rfl) (fun A outer s H E f c1 hr2 => pe_cmeth (E := E) (pe_glob (v := .ref CM) rfl R.mM rfl) R.cr R.cE R.GE (hr2.mono (by decide)) (passes_call (takes_of rfl rfl rfl rfl) fun _ _ _ _ h => h) (pa_cons (pv 6) pa_nil))) pa_nil))) L) fun pins s1 σ H D I h => ?_
  clear L
  obtain ⟨p, a, L, val, word, kind, v1, v3, v8, rfl, S, k⟩ := h
  refine ⟨_, rfl, .inl ⟨rfl, _, SqL.of S.told⟩, S.tabs, fun H1 e1 T1 => ?_⟩
  have S1 := S.ext e1 T1
  obtain ⟨d, od⟩ := ow_odd (K := K) S1.ow
  refine ⟨rfl, _, rfl, _, rfl, badp_o od, fun H2 s2 => ⟨CIM, true, false, false, rfl, rfl, R.rM, fun H3 s3 => ?_⟩⟩
  exact tail_next rfl k ((Far.ext e1).trans (Far.ext (ext_of (s2.trans s3)))) (S1.same (s2.trans s3))
theorem ref_6 (hr : Room 9 (A.deeper (envOfC "_law_is_refused" (defScope sIsRef) s.heap.objs.size f (.ref c)))) (R : RE P w K mg base CM CR CL CIM CIN CIO fO pO fEv pEv fIn fG fWi fOr fAn fA fPk fRf P1 c mc fdG fdWi fdOr fdAn fdA fdPk fdRf) :
    PSs (cxOf CX0 P w K mg base nIR "_law_is_refused" (defScope sIsRef) f (.ref c) A outer s H0 E0).nox ((defBody sIsRef).drop 6) (tTold K CM CR [(P1, qL)] 2) := by
  have L := ref_7 (f := f) (outer := outer) (s := s) (H0 := H0) (E0 := E0) hr R
  obtain ⟨oc, od, kV, doc, pm, ann, cdvT, ct, osl, rfl, lkT, hcT⟩ := R.FRf.ex
  refine pss_conv (pss_cons (ps_expr (pe_bm PySem.F.plainAttrs_list PySem.F.slot_list_append PySem.F.type_list_append mt_append (pv 5) (pa_cons (pe_lamcall (T := [(P1, qL)]) (TT := TRef K CL CIM CIN CIO) (x := "_law_refused") (a := "_law_call") (k := 7) (t := fun E => tCMeth CM (spOfX K CM CIM) E (tC (.ref CM)) (tCons (tDisp [(tC (.str "a"), tVar 6)]) tNil)) (by rfl) R.mRf R.FRf.kp lkT hcT R.bRf scRef rfl (.inl rfl) (ref_gives R.mL R.mIM R.mIN R.mIO R.T.isi) R.TB rfl (.head _) tb1 hr (lamS_by (by rfl)) rfl (fun _ _ _ _ _ => rfl) (fun A outer s H E f c1 hr2 => pe_cmeth (E := E) (pe_glob (v := .ref CM) rfl R.mM rfl) R.cr R.cO R.GO (hr2.mono (by decide)) (passes_call (takes_of rfl rfl rfl rfl) fun _ _ _ _ h => h) (pa_cons (pe_disp (pps_cons pe_str (pv 6) pps_nil) (by rfl) (by rfl) (fun z => by cases z) (by decide)) pa_nil))) pa_nil))) L) fun pins s1 σ H D I h => ?_
  clear L
  obtain ⟨p, a, L, val, word, kind, v1, v3, v8, rfl, S, k⟩ := h
  refine ⟨_, rfl, .inl ⟨rfl, _, SqL.of S.told⟩, S.tabs, fun H1 e1 T1 => ?_⟩
  have S1 := S.ext e1 T1
  refine ⟨rfl, fun q nq => ?_⟩
  have s0 : ∀ o o', Same H1 (upd (upd H1 q o) q o') := fun o o' => same_upd2 nq
  obtain ⟨d, od⟩ := ow_odd (K := K) (S1.same (s0 (.dK []) (.dK (nmK (kv1 "a" word))))).ow
  refine ⟨_, rfl, upd_same, nmK (kv1 "a" word), rfl, by show 1 ≤ 15; decide, _, rfl, badw_a od upd_same, fun H2 s2 => ⟨CIM, true, false, false, rfl, rfl, R.rM, fun H3 s3 => ?_⟩⟩
  exact tail_next rfl k ((Far.ext e1).trans (Far.ext (ext_of (((s0 _ _).trans s2).trans s3)))) (S1.same (((s0 _ _).trans s2).trans s3))
end
end M46

/-! _law_is_refused: its start (made by gJZ.py). -/
namespace M46
open PySem PySem.Spec PyProof.Rows L2 R0 K1 ClX StX LamX

def tPre (K : PySem.W.Frag) (CM CR : Addr) (T : List (Addr × S)) (n : Nat) : TS := fun D σ H => ∃ (p a L : Addr) (val : V) (v1 v3 v6 v7 v8 : Option V), σ = [some (.ref p), v1, some (.ref a), v3, some val, some (.ref L), v6, v7, v8] ∧ Sta K CM CR T H p a L val .non "" n ∧
  ∀ x y z H', Dice H' p x y z → Far p L H H' → Tabs T H' → D.rt (.bl true) H'
theorem kinds4 {j : Nat} {v : V} (h : ([.str "", .str "A", .str "abcdefghi", .str "a b"] : List V)[j]? = some v) : ∃ k : S, v = .str k ∧ k.length ≤ 1000 ∧ nm k = false := match j, h with
  | 0, h => by cases h; exact ⟨_, rfl, by decide +kernel, by decide +kernel⟩
  | 1, h => by cases h; exact ⟨_, rfl, by decide +kernel, by decide +kernel⟩
  | 2, h => by cases h; exact ⟨_, rfl, by decide +kernel, by decide +kernel⟩
  | 3, h => by cases h; exact ⟨_, rfl, by decide +kernel, by decide +kernel⟩
  | j + 4, h => by cases h
theorem Sta.word {K : PySem.W.Frag} {CM CR p a L : Addr} {T : List (Addr × S)} {H : Hp} {val word word' : V} {kind kind' : S} {n : Nat} (S : Sta K CM CR T H p a L val word kind n) (h : OW H word') (hl : kind'.length ≤ 1000) (hn : nm kind' = false) : Sta K CM CR T H p a L val word' kind' n := ⟨S.m, S.ov, h, hl, hn, S.tabs, S.told, S.pos, S.dice⟩
/-- all but the dice and the tables -/
def ButN (p : Addr) (H H' : Hp) : Prop := ∀ b o, b ≠ p → (∀ ps, o ≠ .tbl ps) → H b = some o → H' b = some o
def spIsRef (T : List (Addr × S)) : Sp := fun vs H Q _ => ∃ (p q : Addr) (x y z : Int) (ks : List S), vs = [.ref p, .ref q] ∧ Dice H p x y z ∧ p ≠ q ∧ H q = some (.lst (ks.map V.str)) ∧ Kinds ks ∧ Tabs T H ∧ ∀ x' y' z' H', Dice H' p x' y' z' → ButN p H H' → Tabs T H' → Q (.bl true) H'
section
variable {P : Program} {w : World} {K : PySem.W.Frag} {mg : S → Option Value} {base : Heap} {CM CR CL CIM CIN CIO fO pO fEv pEv fIn fG fWi fOr fAn fA fPk fRf P1 c f : Addr} {mc : Value} {fdG fdWi fdOr fdAn fdA fdPk fdRf : FuncData} {A : Around} {outer : List Env} {s : Shared} {H0 : Hp} {E0 : XK}
theorem ref_3 (hr : Room 9 (A.deeper (envOfC "_law_is_refused" (defScope sIsRef) s.heap.objs.size f (.ref c)))) (R : RE P w K mg base CM CR CL CIM CIN CIO fO pO fEv pEv fIn fG fWi fOr fAn fA fPk fRf P1 c mc fdG fdWi fdOr fdAn fdA fdPk fdRf) :
    PSs (cxOf CX0 P w K mg base nIR "_law_is_refused" (defScope sIsRef) f (.ref c) A outer s H0 E0).nox ((defBody sIsRef).drop 3) (tPre K CM CR [(P1, qL)] 1) := by
  have L := ref_6 (f := f) (outer := outer) (s := s) (H0 := H0) (E0 := E0) hr R
  obtain ⟨oc, od, kV, doc, pm, ann, cdvT, ct, osl, rfl, lkT, hcT⟩ := R.FRf.ex
  refine pss_conv (pss_cons (ps_expr (pe_bm PySem.F.plainAttrs_list PySem.F.slot_list_append PySem.F.type_list_append mt_append (pv 5) (pa_cons (pe_lamcall (T := [(P1, qL)]) (TT := TRef K CL CIM CIN CIO) (x := "_law_refused") (a := "_law_call") (k := 7) (t := fun E => tOp (rBinP P w K CM "and" (spJoinX K CM CIO) E) (tVar 2) (tVar 4)) (by rfl) R.mRf R.FRf.kp lkT hcT R.bRf scRef rfl (.inl rfl) (ref_gives R.mL R.mIM R.mIN R.mIO R.T.isi) R.TB rfl (.head _) tb1 hr (lamS_by (by rfl)) rfl (fun _ _ _ _ _ => rfl) (fun A outer s H E f c1 hr2 => pe_op (op_binP (E := E) ⟨R.GAn, R.bAn, (passes_call (takes_of rfl rfl rfl rfl) fun _ _ _ _ h => h), R.sAn, R.nAn⟩ R.hsf R.rAn (.inl rfl) (hr2.mono (by decide))) (pv 2) (pv 4))) pa_nil)))
    (pss_cons (ps_set (i := 6) scIR.nd rfl (Or.inr rfl) (pe_call R.GP (hr.mono (by decide)) (by rfl) R.mP R.kP R.bP .nil pass0 (pa_cons (pv 0) (pa_cons (pe_lst (pa_cons pe_non (pa_cons pe_int (pa_cons pe_str (pa_cons pe_str (pa_cons pe_str (pa_cons (pe_tup (pa_cons pe_str pa_nil)) (pa_cons (pe_lst (pa_cons pe_str pa_nil)) (pa_cons pe_bl pa_nil))))))))) pa_nil))))
    (pss_cons (ps_set (i := 7) scIR.nd rfl (Or.inr rfl) (pe_call R.GP (hr.mono (by decide)) (by rfl) R.mP R.kP R.bP .nil pass0 (pa_cons (pv 0) (pa_cons (pe_lst (pa_cons pe_str (pa_cons pe_str (pa_cons pe_str (pa_cons pe_str pa_nil))))) pa_nil)))) L))) fun pins s1 σ H D I h => ?_
  clear L
  obtain ⟨p, a, L, val, v1, v3, v6, v7, v8, rfl, S, k⟩ := h
  have hz : (1000 : Nat) ≤ sizeLine := by rw [sizeLine_eq]; decide
  refine ⟨_, rfl, .inl ⟨rfl, _, SqL.of S.told⟩, S.tabs, fun H1 e1 T1 => ?_⟩
  have S1 := S.ext e1 T1
  obtain ⟨ks, g, hks, mk⟩ := S1.m
  obtain ⟨dx, fsd, ia⟩ := mk.ins
  obtain ⟨t, ty, kt, _, ra⟩ := ov_ty R.O S1.ov
  refine ⟨_, rfl, _, rfl, a, dx, _, t, rfl, ia, ty, ra, .ref a, val, t, rfl, ty, kt, CIO, false, false, true, rfl, rfl, R.rO, fun H3 s3 => ?_⟩
  have S3 := S1.same s3
  refine ⟨L, toldV 1, .str "operation", rfl, rfl, S3.told, by show 1 < sizeLine; omega, ?_⟩
  have S4 : Sta K CM CR [(P1, qL)] (upd H3 L (.lst (toldV 1 ++ [V.str "operation"]))) p a L val .non "" 2 := S3.next rfl
  have f4 : Far p L H (upd H3 L (.lst (toldV 1 ++ [V.str "operation"]))) := ((Far.ext e1).trans (Far.ext (ext_of s3))).trans Far.upd
  generalize upd H3 L (.lst (toldV 1 ++ [V.str "operation"])) = G at S4 f4 ⊢
  -- the word
  refine ⟨_, rfl, by show 1 ≤ sizeLine; omega, fun t1 n1 => ?_⟩
  have s5 : Same G (upd G t1 (.tup [V.str "notes"])) := same_upd n1
  have e5 : (upd G t1 (.tup [V.str "notes"])) t1 = some (.tup [V.str "notes"]) := upd_same
  generalize upd G t1 (.tup [V.str "notes"]) = G1 at s5 e5 ⊢
  refine ⟨by show 1 ≤ sizeLine; omega, fun l1 n2 => ?_⟩
  have s6 := s5.trans (same_upd (o := .lst [V.str "notes"]) n2)
  have e6 := same_upd (o := .lst [V.str "notes"]) n2 _ _ e5
  have e7 : (upd G1 l1 (.lst [V.str "notes"])) l1 = some (.lst [V.str "notes"]) := upd_same
  generalize upd G1 l1 (.lst [V.str "notes"]) = G2 at s6 e6 e7 ⊢
  refine ⟨by show 8 ≤ sizeLine; omega, fun l2 n3 => ?_⟩
  have s8 := s6.trans (same_upd (o := .lst [V.non, .int 0, .str "Notes", .str "", .str "other", .ref t1, .ref l1, .bl true]) n3)
  have e8 := same_upd (o := .lst [V.non, .int 0, .str "Notes", .str "", .str "other", .ref t1, .ref l1, .bl true]) n3 _ _ e6
  have e9 := same_upd (o := .lst [V.non, .int 0, .str "Notes", .str "", .str "other", .ref t1, .ref l1, .bl true]) n3 _ _ e7
  have eL : (upd G2 l2 (.lst [V.non, .int 0, .str "Notes", .str "", .str "other", .ref t1, .ref l1, .bl true])) l2 = some (.lst [V.non, .int 0, .str "Notes", .str "", .str "other", .ref t1, .ref l1, .bl true]) := upd_same
  change spPick _ (upd G2 l2 (.lst [V.non, .int 0, .str "Notes", .str "", .str "other", .ref t1, .ref l1, .bl true])) _ L2.E0
  generalize upd G2 l2 (.lst [V.non, .int 0, .str "Notes", .str "", .str "other", .ref t1, .ref l1, .bl true]) = G3 at s8 e8 e9 eL ⊢
  have S8 := S4.same s8
  obtain ⟨x, y, z, D8⟩ := S8.dice
  have np : p ≠ l2 := ne_of D8.at_ eL (fun z => by cases z)
  refine ⟨p, l2, x, y, z, _, rfl, D8, np, eL, by show 0 < 8; decide, by show 8 < 1000; decide, fun j v x' z' G4 hj D9 _ b9 => ?_⟩
  have f9 : Far p L G G4 := (Far.ext (ext_of s8)).trans (Far.but b9)
  have S9 : Sta K CM CR [(P1, qL)] G4 p a L val .non "" 2 := S4.far f9 ⟨_, _, _, D9⟩ (tabs_but D8 S8.tabs b9) (b9 _ _ S8.npL.symm S8.told) S8.pos
  have ow : OW G4 v := by
    match j, hj with
    | 0, hj => cases hj; exact .inl rfl
    | 1, hj => cases hj; exact .inr (.inl rfl)
    | 2, hj => cases hj; exact .inr (.inr (.inl rfl))
    | 3, hj => cases hj; exact .inr (.inr (.inr (.inl rfl)))
    | 4, hj => cases hj; exact .inr (.inr (.inr (.inr (.inl rfl))))
    | 5, hj => cases hj; exact .inr (.inr (.inr (.inr (.inr (.inl ⟨t1, rfl, b9 _ _ (ne_of e8 D8.at_ fun z => by cases z) e8⟩)))))
    | 6, hj => cases hj; exact .inr (.inr (.inr (.inr (.inr (.inr (.inl ⟨l1, rfl, b9 _ _ (ne_of e9 D8.at_ fun z => by cases z) e9⟩))))))
    | 7, hj => cases hj; exact .inr (.inr (.inr (.inr (.inr (.inr (.inr rfl))))))
    | j + 8, hj => cases hj
  -- the kind
  refine ⟨_, rfl, by show 4 ≤ sizeLine; omega, fun l3 n4 => ?_⟩
  have sA : Same G4 (upd G4 l3 (.lst [V.str "", .str "A", .str "abcdefghi", .str "a b"])) := same_upd n4
  have eA : (upd G4 l3 (.lst [V.str "", .str "A", .str "abcdefghi", .str "a b"])) l3 = some (.lst [V.str "", .str "A", .str "abcdefghi", .str "a b"]) := upd_same
  change spPick _ (upd G4 l3 (.lst [V.str "", .str "A", .str "abcdefghi", .str "a b"])) _ L2.E0
  generalize upd G4 l3 (.lst [V.str "", .str "A", .str "abcdefghi", .str "a b"]) = G5 at sA eA ⊢
  have SA := (S9.word ow (kind' := "") (by decide +kernel) (by decide +kernel)).same sA
  have DA := D9.same sA
  have npA : p ≠ l3 := ne_of DA.at_ eA (fun z => by cases z)
  refine ⟨p, l3, x', y, z', _, rfl, DA, npA, eA, by show 0 < 4; decide, by show 4 < 1000; decide, fun i u x2 z2 G6 hi DB _ bB => ?_⟩
  obtain ⟨kind, rfl, kl, kn⟩ := kinds4 hi
  have fB : Far p L G4 G6 := (Far.ext (ext_of sA)).trans (Far.but bB)
  have SB : Sta K CM CR [(P1, qL)] G6 p a L val v "" 2 := SA.far (Far.but bB) ⟨_, _, _, DB⟩ (tabs_but DA SA.tabs bB) (bB _ _ SA.npL.symm SA.told) SA.pos
  exact ⟨p, a, L, val, v, kind, v1, v3, v8, rfl, SB.word SB.ow kl kn, fun x y z H' D' f' t => k x y z H' D' (((f4.trans f9).trans fB).trans f') t⟩
theorem ok_isref {fWd CP fP fR t1 t2 : Addr} {fd fdWd : FuncData} (F : Fun K "_law_is_refused" "_law_is_refused" sIsRef f fd) (hc : fd.code = .ref c) (R : RE P w K mg base CM CR CL CIM CIN CIO fO pO fEv pEv fIn fG fWi fOr fAn fA fPk fRf P1 c mc fdG fdWi fdOr fdAn fdA fdPk fdRf)
    (GWd : FnOk P w K mg base CX0 3 fWd fdWd ["_law_dice_here", "_law_kinds"] spWords) (bWd : Binds K fdWd ["_law_dice_here", "_law_kinds"] []) (kWd : PySem.W.keepIn K (.ref fWd) = true) (mWd : mg "_law_words" = some (.ref fWd))
    (GOg : FnR P w K mg base CX0 6 fO (spOfG CM))
    (MP : Mk K CP fP) (GPi : FnW P w K mg base CX0 5 fP (spW2 "self" "conditions" "groups" (V.ref t1) (V.ref t2) (spPInit K CP))) (h1 : ∀ H, SqT K H t1 []) (h2 : ∀ H, SqT K H t2 []) (mPt : mg "Pattern" = some (.ref CP))
    (MR : Mk K CR fR) (GRi : FnR P w K mg base CX0 2 fR (fun vs H Q E => ∃ ws rest, vs = ws ++ rest ∧ ws.length = (["self"] : List S).length ∧ rest.length ≤ sizeLine ∧ ∀ p, H p = Option.none → spRInit K CP CR (ws ++ [V.ref p]) (upd H p (.tup rest)) Q E)) (mRu : mg "Rule" = some (.ref CR)) :
    FnOk P w K mg base CX0 10 f fd ["_law_dice_here", "_law_kinds"] (spIsRef [(P1, qL)]) := by
  refine fn_ofC F hc scIR (fun vs H Q E h => ?_) (fun A outer s H vs Q E hr h => ?_)
  · obtain ⟨p, q, x, y, z, ks, rfl, _⟩ := h
    rfl
  · have L := ref_3 (f := f) (outer := outer) (s := s) (H0 := H) (E0 := E) hr R
    obtain ⟨p, q, x, y, z, ks, rfl, D0, npq, hq, hK, hT, k⟩ := h
    obtain ⟨oc, od, kV, doc, pm, ann, cdvT, ct, osl, rfl, lkT, hcT⟩ := R.FRf.ex
    refine ⟨_, (pss_cons (ps_asg (pe_tup (pa_cons (pe_cmeth (pe_glob (v := .ref CM) rfl R.mM rfl) R.cr R.cO GOg (hr.mono (by decide)) pass0 (pa_cons (pe_call GWd (hr.mono (by decide)) (by rfl) mWd kWd bWd .nil pass0 (pa_cons (pv 0) (pa_cons (pv 1) pa_nil))) pa_nil)) (pa_cons (pe_lst (pa_cons pe_non (pa_cons pe_int (pa_cons pe_str (pa_cons pe_dnewK (pa_cons (pe_tup pa_nil) (pa_cons (pe_lst (pa_cons pe_str pa_nil)) (pa_cons (pe_rule MP GPi h1 h2 mPt rfl MR GRi mRu rfl (hr.mono (by decide))) pa_nil)))))))) pa_nil))) (pg_tup rfl (pgs_cons (pg_name (i := 2) scIR.nd rfl (Or.inr rfl)) (pgs_cons (pg_name (i := 3) scIR.nd rfl (Or.inl rfl)) pgs_nil))))
      (pss_cons (ps_set (i := 4) scIR.nd rfl (Or.inr rfl) (pe_call R.GP (hr.mono (by decide)) (by rfl) R.mP R.kP R.bP .nil pass0 (pa_cons (pv 0) (pa_cons (pv 3) pa_nil))))
      (pss_cons (ps_set (i := 5) scIR.nd rfl (Or.inl rfl) (pe_lst (pa_cons (pe_lamcall (T := [(P1, qL)]) (TT := TRef K CL CIM CIN CIO) (x := "_law_refused") (a := "_law_call") (k := 7) (t := fun E => tOp (rBinP P w K CM "or" (spJoinX K CM CIO) E) (tVar 2) (tVar 4)) (by rfl) R.mRf R.FRf.kp lkT hcT R.bRf scRef rfl (.inl rfl) (ref_gives R.mL R.mIM R.mIN R.mIO R.T.isi) R.TB rfl (.head _) tb1 hr (lamS_by (by rfl)) rfl (fun _ _ _ _ _ => rfl) (fun A outer s H E f c1 hr2 => pe_op (op_binP (E := E) ⟨R.GOr, R.bOr, (passes_call (takes_of rfl rfl rfl rfl) fun _ _ _ _ h => h), R.sOr, R.nOr⟩ R.hsf R.rOr (.inl rfl) (hr2.mono (by decide))) (pv 2) (pv 4))) pa_nil))) L))), ?_⟩
    clear L
    have hz : (1000 : Nat) ≤ sizeLine := by rw [sizeLine_eq]; decide
    -- the marking
    refine ⟨rfl, _, rfl, _, rfl, p, q, x, y, z, ks, rfl, D0, hq, hK, fun d pl x1 z1 G1 D1 b1 nd hd hpl => ?_⟩
    have T1 := tabs_but D0 hT b1
    refine ⟨d, pl, ks, rfl, kinds_ks hK, plan_pg hpl, hd, fun G2 a s2 _ mk => ?_⟩
    -- the odd values
    refine fun o1 n1 => ⟨by show 0 ≤ sizeLine; omega, fun o2 n2 => ⟨by show 1 ≤ sizeLine; omega, fun o3 n3 => fun r G3 dy gs s3 nr hr3 => ?_⟩⟩
    have s2' : Same G2 G3 := (((same_upd (o := .dK []) n1).trans (same_upd (o := .tup []) n2)).trans (same_upd (o := .lst [.str "notes"]) n3)).trans s3
    have e1 := s3 _ _ (same_upd (o := .lst [.str "notes"]) n3 _ _ (same_upd (o := .tup []) n2 _ _ (upd_same (H := G2) (a := o1) (o := .dK []))))
    have e2 := s3 _ _ (same_upd (o := .lst [.str "notes"]) n3 _ _ (upd_same (H := upd G2 o1 (.dK [])) (a := o2) (o := .tup [])))
    have e3 := s3 _ _ (upd_same (H := upd (upd G2 o1 (.dK [])) o2 (.tup [])) (a := o3) (o := .lst [.str "notes"]))
    refine ⟨by show 7 ≤ sizeLine; omega, fun l nl => ⟨by show 2 ≤ sizeLine; omega, fun tp ntp => ⟨tp, _, rfl, SqT.of upd_same, rfl, ?_⟩⟩⟩
    have hl := same_upd (o := .tup [.ref a, .ref l]) ntp _ _ (upd_same (H := G3) (a := l) (o := .lst [.non, .int 0, .str "notes", .ref o1, .ref o2, .ref o3, .ref r]))
    have s4 : Same G3 (upd (upd G3 l (.lst [.non, .int 0, .str "notes", .ref o1, .ref o2, .ref o3, .ref r])) tp (.tup [.ref a, .ref l])) := (same_upd (o := .lst [.non, .int 0, .str "notes", .ref o1, .ref o2, .ref o3, .ref r]) nl).trans (same_upd (o := .tup [.ref a, .ref l]) ntp)
    have f1 := s4 _ _ e1
    have f2 := s4 _ _ e2
    have f3 := s4 _ _ e3
    have f4 := s4 _ _ hr3
    generalize upd (upd G3 l (.lst [.non, .int 0, .str "notes", .ref o1, .ref o2, .ref o3, .ref r])) tp (.tup [.ref a, .ref l]) = G4 at hl s4 f1 f2 f3 f4 ⊢
    have s5 : Same G1 G4 := (s2.trans s2').trans s4
    have D4 := D1.same s5
    have T4 := T1.ext s5
    have mk4 := mk.same (s2'.trans s4)
    have npl : p ≠ l := ne_of D4.at_ hl (fun z => by cases z)
    -- the value
    refine ⟨_, _, rfl, _, _, rfl, rfl, _, rfl, _, rfl, p, l, x1, y, z1, _, rfl, D4, npl, hl, by show 0 < 7; decide, by show 7 < 1000; decide, fun j v x2 z2 G5 hj D5 _ b5 => ?_⟩
    have T5 := tabs_but D4 T4 b5
    have ov : OV CR G5 v := by
      match j, hj with
      | 0, hj => cases hj; exact .inl rfl
      | 1, hj => cases hj; exact .inr (.inl rfl)
      | 2, hj => cases hj; exact .inr (.inr (.inl rfl))
      | 3, hj => cases hj; exact .inr (.inr (.inr (.inl ⟨_, rfl, b5 _ _ (ne_of f1 D4.at_ fun z => by cases z) f1⟩)))
      | 4, hj => cases hj; exact .inr (.inr (.inr (.inr (.inl ⟨_, rfl, b5 _ _ (ne_of f2 D4.at_ fun z => by cases z) f2⟩))))
      | 5, hj => cases hj; exact .inr (.inr (.inr (.inr (.inr (.inl ⟨_, rfl, b5 _ _ (ne_of f3 D4.at_ fun z => by cases z) f3⟩)))))
      | 6, hj => cases hj; exact .inr (.inr (.inr (.inr (.inr (.inr ⟨_, _, _, rfl, b5 _ _ (ne_of f4 D4.at_ fun z => by cases z) f4⟩)))))
      | j + 7, hj => cases hj
    obtain ⟨ws, m1, m2⟩ := mk4
    obtain ⟨dx, dd, m3, m4⟩ := m1.ex
    have mk5 : Mrk CM G5 a ks (pw pl) := ⟨ws, ⟨dx, dd, b5 _ _ (ne_of m3 D4.at_ fun z => by cases z) m3, b5 _ _ (ne_of m4 D4.at_ fun z => by cases z) m4⟩, m2⟩
    -- the first call
    refine ⟨T5, fun G6 e6 T6 => ?_⟩
    have mk6 := mrk_ext mk5 e6
    obtain ⟨dx6, fsd, ia⟩ := mk6.ins
    have ov6 : OV CR G6 v := by
      rcases ov with h | h | h | ⟨d, rfl, e⟩ | ⟨d, rfl, e⟩ | ⟨d, rfl, e⟩ | ⟨d, dy, gs, rfl, e⟩
      · exact .inl h
      · exact .inr (.inl h)
      · exact .inr (.inr (.inl h))
      · exact .inr (.inr (.inr (.inl ⟨d, rfl, ext_at e6 e⟩)))
      · exact .inr (.inr (.inr (.inr (.inl ⟨d, rfl, ext_at e6 e⟩))))
      · exact .inr (.inr (.inr (.inr (.inr (.inl ⟨d, rfl, ext_at e6 e⟩)))))
      · exact .inr (.inr (.inr (.inr (.inr (.inr ⟨d, dy, gs, rfl, ext_at e6 e⟩)))))
    obtain ⟨t, ty, kt, ro, _⟩ := ov_ty R.O ov6
    refine ⟨_, rfl, _, rfl, a, dx6, _, t, rfl, ia, ty, ro, .ref a, v, t, rfl, ty, kt, CIO, false, false, true, rfl, rfl, R.rO, fun G7 s7 => ⟨by show 1 ≤ sizeLine; omega, fun L nL => ?_⟩⟩
    have s8 : Same G6 (upd G7 L (.lst [.str "operation"])) := s7.trans (same_upd nL)
    have D8 := (dice_ext D5 e6).same s8
    have x8 : ExtN G5 (upd G7 L (.lst [.str "operation"])) := e6.trans (ext_of s8)
    refine ⟨p, a, L, v, _, _, _, _, _, rfl, ⟨⟨ks, _, kinds_ks hK, mrk_ext mk5 x8⟩, ?_, .inl rfl, by decide +kernel, by decide +kernel, T6.ext s8, upd_same, by decide, ⟨_, _, _, D8⟩⟩, fun x' y' z' H' D' f t' => k x' y' z' H' D' (fun b o hb hn e => ?_) t'⟩
    · rcases ov6 with h | h | h | ⟨d, rfl, e⟩ | ⟨d, rfl, e⟩ | ⟨d, rfl, e⟩ | ⟨d, dy, gs, rfl, e⟩
      · exact .inl h
      · exact .inr (.inl h)
      · exact .inr (.inr (.inl h))
      · exact .inr (.inr (.inr (.inl ⟨d, rfl, s8 _ _ e⟩)))
      · exact .inr (.inr (.inr (.inr (.inl ⟨d, rfl, s8 _ _ e⟩))))
      · exact .inr (.inr (.inr (.inr (.inr (.inl ⟨d, rfl, s8 _ _ e⟩)))))
      · exact .inr (.inr (.inr (.inr (.inr (.inr ⟨d, dy, gs, rfl, s8 _ _ e⟩)))))
    · have g5 := b5 _ _ hb (s5 _ _ (b1 _ _ hb e))
      have g7 := s7 _ _ (e6 _ _ g5 hn)
      exact f b o hb (ne_of_none g7 nL) hn (same_upd nL _ _ g7)
end
end M46

/-! The law (made by gKA.py). -/
namespace M46
open PySem PySem.Spec PyProof.Rows L2 R0 K1 ClX StX LamX

abbrev sLaw47 : Stmt := top 61
abbrev nLaw47 : List S := ["_law_script", "_law_at", "_law_dice_here", "_law_kinds", "_law_turn", "_law_high", "_law_low"]
theorem scLaw47 : FnScope nLaw47 ["_law_script"] (defScope sLaw47) := ⟨rfl, rfl, rfl, by decide +kernel, rfl, by decide +kernel, by decide +kernel⟩
def spLaw47 (K : PySem.W.Frag) (T : List (Addr × S)) : Sp := fun vs H Q _ => ∃ (a : Addr) (ns : List Int), vs = [.ref a] ∧ SqL K H a (ns.map V.int) ∧ ns.length ≤ 63 ∧ Tabs T H ∧ ∀ H', Q (.bl true) H'
theorem canon_is {W us us' : List (S × S)} {r r' : S} (ok : Wok W) (s : sortedS (W.map (·.1)) = true) (h1 : kept (W.map (·.1)) (gw W (rest W)) (rest W) = us') (h2 : rest W = r') (c : Canon W us r) : us = us' ∧ r = r' := by
  obtain ⟨e1, e2⟩ := canon_eq c (canon_of ok (.refl _) s) rfl fun _ => rfl
  exact ⟨e1.trans h1, e2.trans h2⟩
abbrev WH : List (S × S) := [("a", w2), ("other", w0)]
abbrev WL : List (S × S) := [("b", w0), ("other", w1)]
abbrev UH : List (S × S) := [("a", w2)]
abbrev UL : List (S × S) := [("b", w0)]
abbrev WA : List (S × S) := [("a", w1), ("b", w0), ("other", w0)]
abbrev UA : List (S × S) := [("a", w1)]
abbrev WO : List (S × S) := [("a", w2), ("b", w0), ("other", w1)]
abbrev UO : List (S × S) := [("a", w2), ("b", w0)]
theorem wok_h : Wok WH := ⟨by decide +kernel, by decide +kernel, by decide +kernel, by decide⟩
theorem wok_l : Wok WL := ⟨by decide +kernel, by decide +kernel, by decide +kernel, by decide⟩
theorem wok_a : Wok WA := ⟨by decide +kernel, by decide +kernel, by decide +kernel, by decide⟩
theorem wok_o : Wok WO := ⟨by decide +kernel, by decide +kernel, by decide +kernel, by decide⟩
theorem can_h {us : List (S × S)} {r : S} (c : Canon WH us r) : us = UH ∧ r = w0 := canon_is wok_h (by decide +kernel) (by decide +kernel) (by decide +kernel) c
theorem can_l {us : List (S × S)} {r : S} (c : Canon WL us r) : us = UL ∧ r = w1 := canon_is wok_l (by decide +kernel) (by decide +kernel) (by decide +kernel) c
theorem put_a : putAll (fun k => mnW (gw UH w0 k) (gw UL w1 k)) (keysB UH UL) = WA := by decide +kernel
theorem put_o : putAll (fun k => mxW (gw UH w0 k) (gw UL w1 k)) (keysB UH UL) = WO := by decide +kernel
theorem can_a {us : List (S × S)} {r : S} (c : Canon (putAll (fun k => mnW (gw UH w0 k) (gw UL w1 k)) (keysB UH UL)) us r) : us = UA ∧ r = w0 := canon_is wok_a (by decide +kernel) (by decide +kernel) (by decide +kernel) (put_a ▸ c)
theorem can_o {us : List (S × S)} {r : S} (c : Canon (putAll (fun k => mxW (gw UH w0 k) (gw UL w1 k)) (keysB UH UL)) us r) : us = UO ∧ r = w1 := canon_is wok_o (by decide +kernel) (by decide +kernel) (by decide +kernel) (put_o ▸ c)
theorem fine_h : Fine UH w0 := ⟨by decide +kernel, by decide +kernel, by decide +kernel, by decide⟩
theorem fine_l : Fine UL w1 := ⟨by decide +kernel, by decide +kernel, by decide +kernel, by decide⟩
theorem fine_a : Fine UA w0 := ⟨by decide +kernel, by decide +kernel, by decide +kernel, by decide⟩
theorem fine_o : Fine UO w1 := ⟨by decide +kernel, by decide +kernel, by decide +kernel, by decide⟩
theorem cls_h (CM CT : Addr) : clsOf CM CT WH = CM := by
  unfold clsOf
  rw [if_neg (by decide +kernel)]
theorem cls_l (CM CT : Addr) : clsOf CM CT WL = CM := by
  unfold clsOf
  rw [if_neg (by decide +kernel)]
theorem le_hl : leW UH w0 UL w1 = false := by decide +kernel
theorem le_lh : leW UL w1 UH w0 = false := by decide +kernel
theorem txt_o : txt UO w1 = "a notes, b nothing, other numbers" := by decide +kernel
theorem txt_a : txt UA w0 = "a numbers, other nothing" := by decide +kernel
section
variable {P : Program} {w : World} {K : PySem.W.Frag} {mg : S → Option Value} {base : Heap} {CM CT fO fOr fAn fA fG fS fK fRt fIs fD fU fN pO pK P1 : Addr} {mc : Value} {fdOr fdAn fdA fdG fdS fdK fdRt fdIs fdD fdU fdN : FuncData}
theorem ok_law47 {f : Addr} {fd : FuncData} (F : Fun K "law" "law" sLaw47 f fd) (T : Bare mg) (cf : ClsF K CM) (hsf : PySem.W.selfFirst K CM = true)
    (GD : FnOk P w K mg base CX0 1 fD fdD ["_law_script", "_law_at"] (spDice K)) (mD : mg "_law_dice" = some (.ref fD)) (kD : PySem.W.keepIn K (.ref fD) = true) (bD : Binds K fdD ["_law_script", "_law_at"] [])
    (GU : FnOk P w K mg base CX0 1 fU fdU ["_law_dice_here", "_law_total"] spPull) (mU : mg "_law_pull" = some (.ref fU)) (kU : PySem.W.keepIn K (.ref fU) = true) (bU : Binds K fdU ["_law_dice_here", "_law_total"] [])
    (GN : FnOk P w K mg base CX0 2 fN fdN ["_law_dice_here", "_law_total"] spNames) (mN : mg "_law_names" = some (.ref fN)) (kN : PySem.W.keepIn K (.ref fN) = true) (bN : Binds K fdN ["_law_dice_here", "_law_total"] [])
    (GRt : FnOk P w K mg base CX0 10 fRt fdRt ["_law_dice_here", "_law_kinds"] spRight) (mRt : mg "_law_right" = some (.ref fRt)) (kRt : PySem.W.keepIn K (.ref fRt) = true) (bRt : Binds K fdRt ["_law_dice_here", "_law_kinds"] [])
    (GIs : FnOk P w K mg base CX0 10 fIs fdIs ["_law_dice_here", "_law_kinds"] (spIsRef [(P1, qL)])) (mIs : mg "_law_is_refused" = some (.ref fIs)) (kIs : PySem.W.keepIn K (.ref fIs) = true) (bIs : Binds K fdIs ["_law_dice_here", "_law_kinds"] [])
    (mM : mg "Marking" = some (.ref CM)) (cr : CRead K CM mc) (cO : CMet K CM mc "of" pO fO) (GO : FnR P w K mg base CX0 6 fO (spOf CM CT))
    (GOr : FnOk P w K mg base CX0 8 fOr fdOr ["self", "other"] (spJoin mxW CM)) (bOr : Binds K fdOr ["self", "other"] []) (sO' : PySem.W.findIn K (.ref CM) (PySem.dunder (Operator.info .BitOr).2) = some (some (.ref fOr))) (nO' : PySem.W.isFn K (.ref fOr) = true)
    (GAn : FnOk P w K mg base CX0 8 fAn fdAn ["self", "other"] (spJoin mnW CM)) (bAn : Binds K fdAn ["self", "other"] []) (sN' : PySem.W.findIn K (.ref CM) (PySem.dunder (Operator.info .BitAnd).2) = some (some (.ref fAn))) (nN' : PySem.W.isFn K (.ref fAn) = true)
    (GA : FnOk P w K mg base CX0 3 fA fdA ["self", "value"] (spAtMost CM)) (bA : Binds K fdA ["self", "value"] []) (mA : Meth K CM "is_at_most" fA)
    (GG : FnOk P w K mg base CX0 2 fG fdG ["self", "at"] (spGet CM)) (bG : Binds K fdG ["self", "at"] []) (sG : PySem.W.findIn K (.ref CM) "__getitem__" = some (some (.ref fG))) (nG : PySem.W.isFn K (.ref fG) = true) (iG : PySem.W.fnIn K fG = true)
    (GS : FnOk P w K mg base CX0 1 fS fdS ["self"] (spStr CM)) (bS : Binds K fdS ["self"] []) (sS : PySem.W.findIn K (.ref CM) "__str__" = some (some (.ref fS))) (nS : PySem.W.isFn K (.ref fS) = true)
    (GK : FnOk P w K mg base CX0 1 fK fdK ["self"] (spKinds CM)) (bK : Binds K fdK ["self"] []) (pKK : PropOf K CM "kinds" pK fK) : FnOk P w K mg base CX0 11 f fd ["_law_script"] (spLaw47 K [(P1, qL)]) := by
  have pK := pKK
  refine F.ok scLaw47 (fun vs H Q E h => ?_) (fun cdv A outer s H vs Q E hr h => ?_)
  · obtain ⟨a, ns, rfl, _⟩ := h
    rfl
  · obtain ⟨a, ns, rfl, hL, hlen, hT, fin⟩ := h
    have hrD : Room 1 _ := hr.mono (by decide)
    have hrK : Room 2 _ := hr.mono (by decide)
    have hrX : Room 10 _ := hr.mono (by decide)
    have hrO : Room 6 _ := hr.mono (by decide)
    have hr3 : Room 3 _ := hr.mono (by decide)
    have hr8 : Room 8 _ := hr.mono (by decide)
    have oO : ∀ E, OwnM (cxOf CX0 P w K mg base nLaw47 "law" (defScope sLaw47) f cdv A outer s H E).nox CX0 8 CM (PySem.dunder (Operator.info .BitOr).2) fOr fdOr ["self", "other"] (spJoin mxW CM) E0 := fun E => ⟨GOr, bOr, pass0, sO', nO'⟩
    have oN : ∀ E, OwnM (cxOf CX0 P w K mg base nLaw47 "law" (defScope sLaw47) f cdv A outer s H E).nox CX0 8 CM (PySem.dunder (Operator.info .BitAnd).2) fAn fdAn ["self", "other"] (spJoin mnW CM) E0 := fun E => ⟨GAn, bAn, pass0, sN', nN'⟩
    have oS : ∀ E, OwnM (cxOf CX0 P w K mg base nLaw47 "law" (defScope sLaw47) f cdv A outer s H E).nox CX0 1 CM "__str__" fS fdS ["self"] (spStr CM) E0 := fun E => ⟨GS, bS, pass0, sS, nS⟩
    have oG : ∀ E, OwnM (cxOf CX0 P w K mg base nLaw47 "law" (defScope sLaw47) f cdv A outer s H E).nox CX0 2 CM "__getitem__" fG fdG ["self", "at"] (spGet CM) E0 := fun E => ⟨GG, bG, pass0, sG, nG⟩
    refine ⟨_, (pss_cons (ps_for PassesOwn.never rfl (pi_range1 (by rfl) T.rng (pa_cons (pe_callB (call_max2 rfl) (by rfl) T.max (by decide +kernel) (pa_cons pe_int (pa_cons (pe_callB (call_min2 rfl) (by rfl) T.min (by decide +kernel) (pa_cons pe_int (pa_cons (pe_callB call_len_seq (by rfl) T.len PySem.boot_len (pa_cons (pv 0) pa_nil)) pa_nil))) pa_nil))) pa_nil)) (pg_name (i := 1) scLaw47.nd rfl (Or.inl rfl)) (pss_cons (ps_set (i := 2) scLaw47.nd rfl (Or.inl rfl) (pe_call GD hrD (by rfl) mD kD bD .nil pass0 (pa_cons (pv 0) (pa_cons (pv 1) pa_nil))))
      (pss_cons (ps_set (i := 3) scLaw47.nd rfl (Or.inl rfl) (pe_call GN hrK (by rfl) mN kN bN .nil pass0 (pa_cons (pv 2) (pa_cons (pe_op op_add pe_int (pe_call GU hrD (by rfl) mU kU bU .nil pass0 (pa_cons (pv 2) (pa_cons pe_int pa_nil)))) pa_nil))))
      (pss_one (ps_for PassesOwn.never rfl (pi_range1 (by rfl) T.rng (pa_cons pe_int pa_nil)) (pg_name (i := 4) scLaw47.nd rfl (Or.inl rfl)) (pss_one (ps_if (PW.pt (pw_or (pt_not (pt_val (pe_call GRt hrX (by rfl) mRt kRt bRt .nil pass0 (pa_cons (pv 2) (pa_cons (pv 3) pa_nil))))) (pw_or1 (pt_not (pt_val (pe_call GIs hrX (by rfl) mIs kIs bIs .nil pass0 (pa_cons (pv 2) (pa_cons (pv 3) pa_nil)))))))) (pss_one (ps_ret pe_bl)) pss_nil)))))))
      (pss_cons (ps_par (i := 5) (j := 6) rfl scLaw47.nd rfl rfl (by decide) rfl rfl (pa_cons (pe_cmeth (pe_glob (v := .ref CM) rfl mM rfl) cr cO GO hrO pass0 (pa_cons (pe_disp (pps_cons pe_str pe_str (pps_cons pe_str pe_str pps_nil)) (by rfl) (by rfl) (fun z => by cases z) (by decide)) pa_nil)) (pa_cons (pe_cmeth (pe_glob (v := .ref CM) rfl mM rfl) cr cO GO hrO pass0 (pa_cons (pe_disp (pps_cons pe_str pe_str (pps_cons pe_str pe_str pps_nil)) (by rfl) (by rfl) (fun z => by cases z) (by decide)) pa_nil)) pa_nil)) (by rfl))
      (pss_cons (ps_if (PW.pt (pw_or (pt_val (pe_meth (pv 5) cf.cl mA GA hr3 bA .nil pass0 (pa_cons (pv 6) pa_nil))) (pw_or (pt_val (pe_meth (pv 6) cf.cl mA GA hr3 bA .nil pass0 (pa_cons (pv 5) pa_nil))) (pw_or (pt_cmpR (op_neD hrD.units) (pe_prop (pe_op (op_bin (oN _) hsf hr8) (pv 5) (pv 6)) cf.cl pK GK hrK bK .nil pass0 rfl) (pe_tup (pa_cons pe_str pa_nil)) (nomark _)) (pw_or1 (pt_cmpR op_ne (pe_ixO (oG _) iG hr3 (pe_op (op_bin (oO _) hsf hr8) (pv 5) (pv 6)) pe_str) pe_str (nomark _))))))) (pss_one (ps_ret pe_bl)) pss_nil)
      (pss_one (ps_ret (pe_and (pe_cmpR op_eq (pe_callTy (call_strO (oS _) hr3) (by rfl) T.str (by decide +kernel) (pa_cons (pe_op (op_bin (oO _) hsf hr8) (pv 5) (pv 6)) pa_nil)) pe_str (nomark _)) (pe_one (pe_cmpR op_eq (pe_callTy (call_strO (oS _) hr3) (by rfl) T.str (by decide +kernel) (pa_cons (pe_op (op_bin (oN _) hsf hr8) (pv 5) (pv 6)) pa_nil)) pe_str (nomark _))))))))), ?_⟩
    have hsz : (1000 : Nat) ≤ sizeLine := by rw [sizeLine_eq]; decide
    refine ⟨_, rfl, a, _, rfl, .inl hL, _, _, rfl, _, _, rfl, _, rfl, ?_, ?_, for_range (fun i σ G => ∃ v1 v2 v3 v4 v5 v6 : Option V, σ = [some (.ref a), v1, v2, v3, v4, v5, v6] ∧ ExtN H G ∧ Tabs [(P1, qL)] G) ⟨none, none, none, none, none, none, rfl, ExtN.refl _, hT⟩ ?_ ?_⟩
    · split <;> split <;> omega
    · rw [List.length_map]
      split <;> split <;> omega
    · rintro i σ G hi ⟨v1, v2, v3, v4, v5, v6, rfl, s0, T0⟩
      refine ⟨_, rfl, _, rfl, a, ns, _, rfl, sqL_kl hL (KeepL.ext s0), by omega, by omega, fun p x y G1 s1 hp D => ?_⟩
      have T1 := T0.ext s1
      refine ⟨_, rfl, _, rfl, p, x, y, 0, 4, rfl, D, by decide, by decide, fun r x1 z1 G2 r0 r1 D2 hz s2 => ?_⟩
      have T2 := tabs_but D T1 s2
      obtain ⟨rn, rfl⟩ : ∃ rn : Nat, r = (rn : Int) := ⟨r.toNat, by omega⟩
      refine ⟨_, _, rfl, rfl, p, x1, y, z1, 1 + rn, by show [V.ref p, V.int (1 + (rn : Int))] = [V.ref p, V.int ((1 + rn : Nat) : Int)]; rw [show ((1 : Int) + (rn : Int)) = ((1 + rn : Nat) : Int) by omega], D2, by omega, fun q ks x2 z2 G3 D3 s3 nq hq hl hk => ?_⟩
      have T3 := tabs_but D2 T2 s3
      have npq : p ≠ q := ne_of_none D2.at_ nq
      have P3 : ExtN H G3 := fun b o e hn => by
        have e0 := s0 _ _ e hn
        have hb : b ≠ p := ne_of_none e0 hp
        exact s3 b o hb (s2 b o hb (s1 _ _ e0))
      have nbp : ∀ {b o}, H b = some o → (∀ ps, o ≠ .tbl ps) → b ≠ p := fun e hn => ne_of_none (s0 _ _ e hn) hp
      refine ⟨4, rfl, by decide, by decide, for_range (n := 4) (fun j σ G => ∃ (v4 : Option V) (x' y' z' : Int), σ = [some (.ref a), some (.int (0 + (i : Int))), some (.ref p), some (.ref q), v4, v5, v6] ∧ Dice G p x' y' z' ∧ G q = some (.lst (ks.map V.str)) ∧ Tabs [(P1, qL)] G ∧ ExtN H G) ⟨v4, x2, y, z2, rfl, D3, hq, T3, P3⟩ ?_ ?_⟩
      · rintro j σ G4 hj ⟨u4, x4, y4, z4, rfl, D4, hq4, T4, P4⟩
        refine ⟨_, rfl, _, rfl, p, q, x4, y4, z4, ks, rfl, D4, npq, hq4, hk, fun x5 z5 G5 D5 b5 => ⟨true, rfl, ?_⟩⟩
        have hq5 := b5 q _ npq.symm hq4
        refine ⟨_, rfl, _, rfl, p, q, x5, y4, z5, ks, rfl, D5, npq, hq5, hk, tabs_but D4 T4 b5, fun x6 y6 z6 G6 D6 b6 T6 => ⟨true, rfl, ?_⟩⟩
        refine ⟨_, x6, y6, z6, rfl, D6, b6 q _ npq.symm (fun _ z => by cases z) hq5, T6, fun b o e hn => ?_⟩
        exact b6 b o (nbp e hn) hn (b5 b o (nbp e hn) (P4 b o e hn))
      · rintro σ G4 ⟨u4, x4, y4, z4, rfl, D4, hq4, T4, P4⟩
        exact ⟨_, _, _, _, _, _, rfl, P4, T4⟩
    · rintro σ G ⟨v1, v2, v3, v4, v5, v6, rfl, s0, _⟩
      clear s0
      -- the written markings
      refine ⟨rfl, fun p1 hp1 => ⟨upd_same, wd WH, rfl, (by rw [wd_len]; decide), ?_⟩⟩
      rw [merge_nil wok_h.nd, upd_upd]
      refine ⟨p1, WH, rfl, upd_same, wok_h, by decide, fun G1 b1 us1 r1 s1 n1 m1 c1 => ?_⟩
      rw [cls_h] at m1
      obtain ⟨rfl, rfl⟩ := can_h c1
      refine ⟨rfl, fun p2 hp2 => ⟨upd_same, wd WL, rfl, (by rw [wd_len]; decide), ?_⟩⟩
      rw [merge_nil wok_l.nd, upd_upd]
      refine ⟨p2, WL, rfl, upd_same, wok_l, by decide, fun G2 b2 us2 r2 s2 n2 m2 c2 => ?_⟩
      rw [cls_l] at m2
      obtain ⟨rfl, rfl⟩ := can_l c2
      have mH := (m1.same (same_upd hp2)).same s2
      clear m1 c1 c2 n1 n2 s1 s2
      obtain ⟨dh, eh, ih, ih2⟩ := id mH
      obtain ⟨dl, el, il, il2⟩ := id m2
      -- not at most
      refine ⟨_, _, rfl, _, rfl, b1, dh, _, rfl, ih, no_lk (by decide +kernel) (by decide +kernel), _, rfl, b1, b2, UH, w0, UL, w1, rfl, mH, m2, fine_h, fine_l, fun G3 s3 => ⟨_, rfl, ?_⟩⟩
      rw [le_hl]
      refine ⟨_, rfl, b2, dl, _, rfl, s3 _ _ il, no_lk (by decide +kernel) (by decide +kernel), _, rfl, b2, b1, UL, w1, UH, w0, rfl, m2.same s3, mH.same s3, fine_l, fine_h, fun G4 s4 => ⟨_, rfl, ?_⟩⟩
      rw [le_lh]
      have mH4 := (mH.same s3).same s4
      have mL4 := (m2.same s3).same s4
      clear mH m2 ih ih2 il il2 s3 s4
      obtain ⟨dh, eh, ih, ih2⟩ := id mH4
      obtain ⟨dl, el, il, il2⟩ := id mL4
      -- both
      refine ⟨_, rfl, _, rfl, b1, b2, dh, _, dl, _, rfl, rfl, ih, il, b1, b2, UH, w0, UL, w1, rfl, mH4, mL4, fine_h, fine_l, by decide, by decide, by decide +kernel, by decide +kernel, fun G5 b5 us5 r5 s5 n5 m5 c5 => ?_⟩
      obtain ⟨rfl, rfl⟩ := can_a c5
      obtain ⟨d5, e5, i5, j5⟩ := id m5
      refine ⟨b5, d5, _, rfl, i5, b5, UA, w0, rfl, m5, fun q hq => ⟨by show 1 ≤ sizeLine; omega, fun t ht => ?_⟩⟩
      have sh : SeqAt.shaped (.tuple [.str "a"]) = true := by decide +kernel
      refine ⟨.tuple [.str "a"], .tuple [.str "a"], .tup (SqT.of (xs := [V.str "a"]) (same_upd ht _ _ upd_same)) (dp_strs ["a"]), .tup (SqT.of upd_same) (dp_strs ["a"]), sh, sh, _, rfl, ?_⟩
      rw [SeqAt.eqv_refl _ (SeqAt.canLay_of_shaped sh)]
      have s6 := (s5.trans (same_upd (o := .tup ((UA.map (·.1)).map V.str)) hq)).trans (same_upd (o := .tup [V.str "a"]) ht)
      have mH6 := mH4.same s6
      have mL6 := mL4.same s6
      clear mH4 mL4 ih ih2 il il2 s5
      obtain ⟨dh, eh, ih, ih2⟩ := id mH6
      obtain ⟨dl, el, il, il2⟩ := id mL6
      refine ⟨_, rfl, _, rfl, b1, b2, dh, _, dl, _, rfl, rfl, ih, il, b1, b2, UH, w0, UL, w1, rfl, mH6, mL6, fine_h, fine_l, by decide, by decide, by decide +kernel, by decide +kernel, fun G7 b7 us7 r7 s7 n7 m7 c7 => ?_⟩
      obtain ⟨rfl, rfl⟩ := can_o c7
      obtain ⟨d7, e7, i7, j7⟩ := id m7
      refine ⟨b7, d7, _, rfl, i7, b7, UO, w1, "b", rfl, m7, by decide +kernel, ?_⟩
      rw [show gw UO w1 "b" = ("nothing" : S) by decide +kernel]
      refine ⟨rfl, _, rfl, ?_⟩
      rw [show decide (V.str "nothing" = V.str "nothing") = true from decide_eq_true rfl]
      have mH8 := mH6.same s7
      have mL8 := mL6.same s7
      clear mH6 mL6 ih ih2 il il2 s7 s6
      obtain ⟨dh, eh, ih, ih2⟩ := id mH8
      obtain ⟨dl, el, il, il2⟩ := id mL8
      -- told as texts
      refine ⟨_, rfl, _, rfl, b1, b2, dh, _, dl, _, rfl, rfl, ih, il, b1, b2, UH, w0, UL, w1, rfl, mH8, mL8, fine_h, fine_l, by decide, by decide, by decide +kernel, by decide +kernel, fun G9 b9 us9 r9 s9 n9 m9 c9 => ?_⟩
      obtain ⟨rfl, rfl⟩ := can_o c9
      obtain ⟨d9, e9, i9, j9⟩ := id m9
      refine ⟨b9, d9, _, rfl, i9, b9, UO, w1, rfl, m9, fine_o, fun Ga sa => ⟨_, rfl, rfl, ?_⟩⟩
      rw [txt_o, show decide (V.str "a notes, b nothing, other numbers" = V.str "a notes, b nothing, other numbers") = true from decide_eq_true rfl]
      have mHa := (mH8.same s9).same sa
      have mLa := (mL8.same s9).same sa
      clear mH8 mL8 ih ih2 il il2
      obtain ⟨dh, eh, ih, ih2⟩ := id mHa
      obtain ⟨dl, el, il, il2⟩ := id mLa
      refine ⟨_, rfl, _, rfl, _, rfl, b1, b2, dh, _, dl, _, rfl, rfl, ih, il, b1, b2, UH, w0, UL, w1, rfl, mHa, mLa, fine_h, fine_l, by decide, by decide, by decide +kernel, by decide +kernel, fun Gb bb usb rb sb nb mb cb => ?_⟩
      obtain ⟨rfl, rfl⟩ := can_a cb
      obtain ⟨db, eb, ib, jb⟩ := id mb
      refine ⟨bb, db, _, rfl, ib, bb, UA, w0, rfl, mb, fine_a, fun Gc sc => ⟨_, rfl, rfl, ?_⟩⟩
      rw [txt_a]
      exact fin _
end
end M46

/-! What the top has written, and the law (made by gKB.py). -/
namespace M46
open PySem PySem.Spec PyProof.Rows L2 R0 K1 ClX StX LamX

theorem not_there47 {K : PySem.W.Frag} {h : Heap} {P0 : Addr} (X : K.In h) (n : PySem.W.noTabs K = true) (e : h.get? P0 = some { cls := .none, data := .fields #[] }) : K.lookup P0 = none := by
  cases q : K.lookup P0 with
  | none => rfl
  | some o =>
    have z := X _ _ q
    rw [e] at z
    cases z
    have z2 := List.all_eq_true.mp n (P0, _) (PySem.W.mem_of_lookupK q)
    exact absurd (show false = true from z2) Bool.false_ne_true
theorem walk_T1 {l : PySem.W.OpenLaw} {n k : Nat} {q : Program} {loose : List PySem.Str} {XP : (PySem.Str → Option Value) → Heap → Prop} {YP : World → Heap → Prop} {d : DefRec} {K : Params → PySem.W.Frag} {sp : World → Addr → Sp} {x y1 : PySem.Str} (hn : l.most = some n) (hn2 : n ≤ sizeLine) (hdf : d.params.defaults = []) (hr : Room k callerA)
    (r1 : ((recsOf q).find? fun e => e.name == y1).isSome = true) (hY : ∀ (w : World) (h : Heap), YP w h → (K w.params).In h)
    (F : ∀ (w : World) (mg : PySem.Str → Option Value) (fa : Addr) (h : Heap), (K w.params).In h → h.Ns mainGlobals mg → mg d.name = some (.ref fa) →
      ∃ (c1 P1 : Addr) (fd : FuncData), PySem.W.tabIn (K w.params) y1 = some (c1, P1) ∧ PySem.W.noTabs (K w.params) = true ∧ (∀ (s : Shared) (u : Value), BindsTo s fd ⟨[u], []⟩ [(x, u)]) ∧
        ∀ base : Heap, (K w.params).In base → base.Ns mainGlobals mg → TabB base mg c1 P1 → FnOk l.prog w (K w.params) mg base CX0 k fa fd [x] (sp w P1))
    (hsp : ∀ (w : World) (P1 : Addr) (H : Hp) (a : Addr) (ns : List Int), ns.length ≤ n → H P1 = some (.tbl #[]) → SqL (K w.params) H a (ns.map V.int) → sp w P1 [.ref a] H (fun v _ => v = .bl true) fun _ _ _ => False) : PySem.W.WalkO q loose XP YP l.row.toRowW d [] (fun f vs => PySem.call f vs) := by
  refine Att.attach_call hn hdf fun w s0 s1 mg mb fa o pm cd doc a vs ns G Y ho hd hcd hmg hobj hints hlen hg => ?_
  have KX := hY w _ Y
  obtain ⟨c1, P1, fd, t1, nt, hb, hF⟩ := F w mg fa _ KX G.T.g hmg
  obtain ⟨d1, e1⟩ := Option.isSome_iff_exists.mp r1
  obtain ⟨C1, T1⟩ := PySem.W.tab_of G.T KX e1 t1
  have one : ∀ {A : Addr × Addr → Prop}, A (c1, P1) → ∀ p ∈ [(c1, P1)], A p := fun h1 p hp => by
    rw [List.mem_singleton.mp hp]; exact h1
  exact law_callTs (cs := [(c1, P1)]) KX G.T.g G.T.b G.T.builtins G.T.nolimit hg (one T1) (one (not_there47 KX nt T1)) (one C1) G.T.bmain hobj hints (Nat.le_trans hlen hn2) hr
    (fun base X Nb tb => hF base X Nb (tb _ (.head _))) hb (fun H hH hS => hsp w P1 H a ns hlen (hH _ (.head _)) hS) fun H e s' h => h.elim
theorem all_mk47 {l : PySem.W.OpenLaw} {w : World} {K : PySem.W.Frag} {h : Heap} {mg : PySem.Str → Option Value} {fa CM CT CP CR CL CIM CIN CIO aW fIn fPi fRi Dk Dp1 e1 e2 gOr c0 P1 fN fC fK fL fB fD fU fP fNm fW fLw fLv fJ fWt fRf fR fIs fY fDf fKK fKL fKC fKG fMy fPa fPo fAd fOf fEv fKi fWo fWi fAm fGi fOr fAn fEq fSt fTk pOf pEv pKi : Addr} (X : K.In h) (G : h.Ns mainGlobals mg) (hfa : mg "law" = some (.ref fa))
    {odIn anIn odPi anPi odRi anRi dd1 dd2 odN odC odK odL odB odD odU odP odNm odW odLw odLv odJ odWt odRf odR odIs odY odDf odKK odKL odKC odKG odMy odPa odPo odAd odOf odEv odKi odWo odWi odAm odGi odOr odAn odEq odSt odTk anN anC anK anL anB anD anU anP anNm anW anLw anLv anJ anWt anRf anR anIs anY anDf anKK anKL anKC anKG anMy anPa anPo anAd anOf anEv anKi anWo anWi anAm anGi anOr anAn anEq anSt anTk : Option Addr} {slW slIn slPi slRi sle1 sle2 slN slC slK slL slB slD slU slP slNm slW slLw slLv slJ slWt slRf slR slIs slY slDf slKK slKL slKC slKG slMy slPa slPo slAd slOf slEv slKi slWo slWi slAm slGi slOr slAn slEq slSt slTk : Array (Option Value)} {tk0 tk1 tk2 tk3 tw0 tw1 tw2 tkd : Tok} {nW ne1 ne2 : Nat} {rsOf rsEv rsKi : List Value}
    {mc ocIn dcIn pmIn cdIn ctIn ocPi dcPi pmPi cdPi ctPi ocRi kVRi dcRi pmRi cdRi ctRi ocN ocC ocK ocL ocB ocD ocU ocP ocNm ocW ocLw ocLv ocJ ocWt ocRf ocR ocIs ocY ocDf ocKK ocKL ocKC ocKG ocMy ocPa ocPo ocAd ocOf ocEv ocKi ocWo ocWi ocAm ocGi ocOr ocAn ocEq ocSt ocTk kVN kVC kVK kVL kVB kVD kVU kVP kVNm kVW kVLw kVLv kVJ kVWt kVRf kVR kVIs kVY kVDf kVKK kVKL kVKC kVKG kVMy kVPa kVPo kVAd kVOf kVEv kVKi kVWo kVWi kVAm kVGi kVOr kVAn kVEq kVSt kVTk dcN dcC dcK dcL dcB dcD dcU dcP dcNm dcW dcLw dcLv dcJ dcWt dcRf dcR dcIs dcY dcDf dcKK dcKL dcKC dcKG dcMy dcPa dcPo dcAd dcOf dcEv dcKi dcWo dcWi dcAm dcGi dcOr dcAn dcEq dcSt dcTk pmN pmC pmK pmL pmB pmD pmU pmP pmNm pmW pmLw pmLv pmJ pmWt pmRf pmR pmIs pmY pmDf pmKK pmKL pmKC pmKG pmMy pmPa pmPo pmAd pmOf pmEv pmKi pmWo pmWi pmAm pmGi pmOr pmAn pmEq pmSt pmTk ctN ctC ctK ctL ctB ctD ctU ctP ctNm ctW ctLw ctLv ctJ ctWt ctRf ctR ctIs ctY ctDf ctKK ctKL ctKC ctKG ctMy ctPa ctPo ctAd ctOf ctEv ctKi ctWo ctWi ctAm ctGi ctOr ctAn ctEq ctSt ctTk cdN cdC cdK cdL cdB cdD cdU cdP cdNm cdW cdLw cdLv cdJ cdWt cdRf cdR cdY cdDf cdKK cdKL cdKC cdKG cdMy cdPa cdPo cdAd cdOf cdEv cdKi cdWo cdWi cdAm cdGi cdOr cdAn cdEq cdSt cdTk : Value}
    (aCM : PySem.W.nsIn K mainGlobals "Marking" = some (some (.ref CM)))
    (aCT : PySem.W.nsIn K mainGlobals "TakenMarking" = some (some (.ref CT)))
    (aCP : PySem.W.nsIn K mainGlobals "Pattern" = some (some (.ref CP)))
    (aCR : PySem.W.nsIn K mainGlobals "Rule" = some (some (.ref CR)))
    (aCL : PySem.W.nsIn K mainGlobals "LetterError" = some (some (.ref CL)))
    (aCIM : PySem.W.nsIn K mainGlobals "InvalidMarking" = some (some (.ref CIM)))
    (aCIN : PySem.W.nsIn K mainGlobals "InvalidName" = some (some (.ref CIN)))
    (aCIO : PySem.W.nsIn K mainGlobals "InvalidOperation" = some (some (.ref CIO)))
    (aLN : PySem.W.nsIn K mainGlobals "LONGEST_NAME" = some (some (.int 8 tk0)))
    (aPL : PySem.W.nsIn K mainGlobals "MAX_PATTERN_LETTERS" = some (some (.int 5 tk1)))
    (aAR : PySem.W.nsIn K mainGlobals "MAX_ARRANGEMENTS" = some (some (.int 600 tk2)))
    (aRU : PySem.W.nsIn K mainGlobals "MAX_RULE" = some (some (.int 6 tk3)))
    (aWS : PySem.W.nsIn K mainGlobals "WORDS" = some (some (.ref aW)))
    (lkW : K.lookup aW = some ⟨.type "tuple", none, .seq #[.str "nothing" tw0, .str "numbers" tw1, .str "notes" tw2] nW, slW⟩)
    (zint : PySem.W.nsIn K mainGlobals "int" = some none)
    (zabs : PySem.W.nsIn K mainGlobals "abs" = some none)
    (zmax : PySem.W.nsIn K mainGlobals "max" = some none)
    (zmin : PySem.W.nsIn K mainGlobals "min" = some none)
    (zlen : PySem.W.nsIn K mainGlobals "len" = some none)
    (zrng : PySem.W.nsIn K mainGlobals "range" = some none)
    (zisi : PySem.W.nsIn K mainGlobals "isinstance" = some none)
    (zstr : PySem.W.nsIn K mainGlobals "str" = some none)
    (ztup : PySem.W.nsIn K mainGlobals "tuple" = some none)
    (zbool : PySem.W.nsIn K mainGlobals "bool" = some none)
    (zall : PySem.W.nsIn K mainGlobals "all" = some none)
    (zany : PySem.W.nsIn K mainGlobals "any" = some none)
    (zdict : PySem.W.nsIn K mainGlobals "dict" = some none)
    (zlist : PySem.W.nsIn K mainGlobals "list" = some none)
    (zsort : PySem.W.nsIn K mainGlobals "sorted" = some none)
    (ziter : PySem.W.nsIn K mainGlobals "iter" = some none)
    (zset : PySem.W.nsIn K mainGlobals "set" = some none)
    (zenm : PySem.W.nsIn K mainGlobals "enumerate" = some none)
    (gN : PySem.W.nsIn K mainGlobals "is_name" = some (some (.ref fN)))
    (lN : K.lookup fN = some ⟨ocN, odN, .func (PySem.W.fnOf "is_name" "is_name" (defArgs sIsName) (defBody sIsName) (defScope sIsName) .none kVN dcN pmN anN cdN ctN), slN⟩)
    (cN : PySem.W.codeIn K cdN "is_name" = true)
    (kN : PySem.W.keepIn K (.ref fN) = true)
    (gC : PySem.W.nsIn K mainGlobals "_check_words" = some (some (.ref fC)))
    (lC : K.lookup fC = some ⟨ocC, odC, .func (PySem.W.fnOf "_check_words" "_check_words" (defArgs sCheck) (defBody sCheck) (defScope sCheck) .none kVC dcC pmC anC cdC ctC), slC⟩)
    (cC : PySem.W.codeIn K cdC "_check_words" = true)
    (kC : PySem.W.keepIn K (.ref fC) = true)
    (gK : PySem.W.nsIn K mainGlobals "_kept_words" = some (some (.ref fK)))
    (lK : K.lookup fK = some ⟨ocK, odK, .func (PySem.W.fnOf "_kept_words" "_kept_words" (defArgs sKept) (defBody sKept) (defScope sKept) .none kVK dcK pmK anK cdK ctK), slK⟩)
    (cK : PySem.W.codeIn K cdK "_kept_words" = true)
    (kK : PySem.W.keepIn K (.ref fK) = true)
    (gL : PySem.W.nsIn K mainGlobals "is_less" = some (some (.ref fL)))
    (lL : K.lookup fL = some ⟨ocL, odL, .func (PySem.W.fnOf "is_less" "is_less" (defArgs sLess) (defBody sLess) (defScope sLess) .none kVL dcL pmL anL cdL ctL), slL⟩)
    (cL : PySem.W.codeIn K cdL "is_less" = true)
    (kL : PySem.W.keepIn K (.ref fL) = true)
    (gB : PySem.W.nsIn K mainGlobals "_kinds_of_both" = some (some (.ref fB)))
    (lB : K.lookup fB = some ⟨ocB, odB, .func (PySem.W.fnOf "_kinds_of_both" "_kinds_of_both" (defArgs sBoth) (defBody sBoth) (defScope sBoth) .none kVB dcB pmB anB cdB ctB), slB⟩)
    (cB : PySem.W.codeIn K cdB "_kinds_of_both" = true)
    (kB : PySem.W.keepIn K (.ref fB) = true)
    (gD : PySem.W.nsIn K mainGlobals "_law_dice" = some (some (.ref fD)))
    (lD : K.lookup fD = some ⟨ocD, odD, .func (PySem.W.fnOf "_law_dice" "_law_dice" (defArgs sDice) (defBody sDice) (defScope sDice) .none kVD dcD pmD anD cdD ctD), slD⟩)
    (cD : PySem.W.codeIn K cdD "_law_dice" = true)
    (kD : PySem.W.keepIn K (.ref fD) = true)
    (gU : PySem.W.nsIn K mainGlobals "_law_pull" = some (some (.ref fU)))
    (lU : K.lookup fU = some ⟨ocU, odU, .func (PySem.W.fnOf "_law_pull" "_law_pull" (defArgs sPull) (defBody sPull) (defScope sPull) .none kVU dcU pmU anU cdU ctU), slU⟩)
    (cU : PySem.W.codeIn K cdU "_law_pull" = true)
    (kU : PySem.W.keepIn K (.ref fU) = true)
    (gP : PySem.W.nsIn K mainGlobals "_law_pick" = some (some (.ref fP)))
    (lP : K.lookup fP = some ⟨ocP, odP, .func (PySem.W.fnOf "_law_pick" "_law_pick" (defArgs sPick) (defBody sPick) (defScope sPick) .none kVP dcP pmP anP cdP ctP), slP⟩)
    (cP : PySem.W.codeIn K cdP "_law_pick" = true)
    (kP : PySem.W.keepIn K (.ref fP) = true)
    (gNm : PySem.W.nsIn K mainGlobals "_law_names" = some (some (.ref fNm)))
    (lNm : K.lookup fNm = some ⟨ocNm, odNm, .func (PySem.W.fnOf "_law_names" "_law_names" (defArgs sNames) (defBody sNames) (defScope sNames) .none kVNm dcNm pmNm anNm cdNm ctNm), slNm⟩)
    (cNm : PySem.W.codeIn K cdNm "_law_names" = true)
    (kNm : PySem.W.keepIn K (.ref fNm) = true)
    (gW : PySem.W.nsIn K mainGlobals "_law_words" = some (some (.ref fW)))
    (lW : K.lookup fW = some ⟨ocW, odW, .func (PySem.W.fnOf "_law_words" "_law_words" (defArgs sWords) (defBody sWords) (defScope sWords) .none kVW dcW pmW anW cdW ctW), slW⟩)
    (cW : PySem.W.codeIn K cdW "_law_words" = true)
    (kW : PySem.W.keepIn K (.ref fW) = true)
    (gLw : PySem.W.nsIn K mainGlobals "_law_word" = some (some (.ref fLw)))
    (lLw : K.lookup fLw = some ⟨ocLw, odLw, .func (PySem.W.fnOf "_law_word" "_law_word" (defArgs sLWord) (defBody sLWord) (defScope sLWord) .none kVLw dcLw pmLw anLw cdLw ctLw), slLw⟩)
    (cLw : PySem.W.codeIn K cdLw "_law_word" = true)
    (kLw : PySem.W.keepIn K (.ref fLw) = true)
    (gLv : PySem.W.nsIn K mainGlobals "_law_level" = some (some (.ref fLv)))
    (lLv : K.lookup fLv = some ⟨ocLv, odLv, .func (PySem.W.fnOf "_law_level" "_law_level" (defArgs sLevel) (defBody sLevel) (defScope sLevel) .none kVLv dcLv pmLv anLv cdLv ctLv), slLv⟩)
    (cLv : PySem.W.codeIn K cdLv "_law_level" = true)
    (kLv : PySem.W.keepIn K (.ref fLv) = true)
    (gJ : PySem.W.nsIn K mainGlobals "_law_joined" = some (some (.ref fJ)))
    (lJ : K.lookup fJ = some ⟨ocJ, odJ, .func (PySem.W.fnOf "_law_joined" "_law_joined" (defArgs sJoined) (defBody sJoined) (defScope sJoined) .none kVJ dcJ pmJ anJ cdJ ctJ), slJ⟩)
    (cJ : PySem.W.codeIn K cdJ "_law_joined" = true)
    (kJ : PySem.W.keepIn K (.ref fJ) = true)
    (gWt : PySem.W.nsIn K mainGlobals "_law_is_within" = some (some (.ref fWt)))
    (lWt : K.lookup fWt = some ⟨ocWt, odWt, .func (PySem.W.fnOf "_law_is_within" "_law_is_within" (defArgs sWithin) (defBody sWithin) (defScope sWithin) .none kVWt dcWt pmWt anWt cdWt ctWt), slWt⟩)
    (cWt : PySem.W.codeIn K cdWt "_law_is_within" = true)
    (kWt : PySem.W.keepIn K (.ref fWt) = true)
    (gRf : PySem.W.nsIn K mainGlobals "_law_refused" = some (some (.ref fRf)))
    (lRf : K.lookup fRf = some ⟨ocRf, odRf, .func (PySem.W.fnOf "_law_refused" "_law_refused" (defArgs sRefused) (defBody sRefused) (defScope sRefused) .none kVRf dcRf pmRf anRf cdRf ctRf), slRf⟩)
    (cRf : PySem.W.codeIn K cdRf "_law_refused" = true)
    (kRf : PySem.W.keepIn K (.ref fRf) = true)
    (gR : PySem.W.nsIn K mainGlobals "_law_right" = some (some (.ref fR)))
    (lR : K.lookup fR = some ⟨ocR, odR, .func (PySem.W.fnOf "_law_right" "_law_right" (defArgs sRight) (defBody sRight) (defScope sRight) .none kVR dcR pmR anR cdR ctR), slR⟩)
    (cR : PySem.W.codeIn K cdR "_law_right" = true)
    (kR : PySem.W.keepIn K (.ref fR) = true)
    (gIs : PySem.W.nsIn K mainGlobals "_law_is_refused" = some (some (.ref fIs)))
    (lIs : K.lookup fIs = some ⟨ocIs, odIs, .func (PySem.W.fnOf "_law_is_refused" "_law_is_refused" (defArgs sIsRef) (defBody sIsRef) (defScope sIsRef) .none kVIs dcIs pmIs anIs (.ref c0) ctIs), slIs⟩)
    (cIs : PySem.W.codeIn K (.ref c0) "_law_is_refused" = true)
    (kIs : PySem.W.keepIn K (.ref fIs) = true)
    (gY : PySem.W.nsIn K mainGlobals "law" = some (some (.ref fY)))
    (lY : K.lookup fY = some ⟨ocY, odY, .func (PySem.W.fnOf "law" "law" (defArgs sLaw47) (defBody sLaw47) (defScope sLaw47) .none kVY dcY pmY anY cdY ctY), slY⟩)
    (cY : PySem.W.codeIn K cdY "law" = true)
    (kY : PySem.W.keepIn K (.ref fY) = true)
    (gDf : PySem.W.nsIn K mainGlobals "are_different" = some (some (.ref fDf)))
    (lDf : K.lookup fDf = some ⟨ocDf, odDf, .func (PySem.W.fnOf "are_different" "are_different" (defArgs sDiff) (defBody sDiff) (defScope sDiff) .none kVDf dcDf pmDf anDf cdDf ctDf), slDf⟩)
    (cDf : PySem.W.codeIn K cdDf "are_different" = true)
    (kDf : PySem.W.keepIn K (.ref fDf) = true)
    (gKK : PySem.W.nsIn K mainGlobals "_kept_kinds" = some (some (.ref fKK)))
    (lKK : K.lookup fKK = some ⟨ocKK, odKK, .func (PySem.W.fnOf "_kept_kinds" "_kept_kinds" (defArgs sKK) (defBody sKK) (defScope sKK) .none kVKK dcKK pmKK anKK cdKK ctKK), slKK⟩)
    (cKK : PySem.W.codeIn K cdKK "_kept_kinds" = true)
    (kKK : PySem.W.keepIn K (.ref fKK) = true)
    (gKL : PySem.W.nsIn K mainGlobals "_kept_letters" = some (some (.ref fKL)))
    (lKL : K.lookup fKL = some ⟨ocKL, odKL, .func (PySem.W.fnOf "_kept_letters" "_kept_letters" (defArgs sKL) (defBody sKL) (defScope sKL) .none kVKL dcKL pmKL anKL cdKL ctKL), slKL⟩)
    (cKL : PySem.W.codeIn K cdKL "_kept_letters" = true)
    (kKL : PySem.W.keepIn K (.ref fKL) = true)
    (gKC : PySem.W.nsIn K mainGlobals "_kept_conditions" = some (some (.ref fKC)))
    (lKC : K.lookup fKC = some ⟨ocKC, odKC, .func (PySem.W.fnOf "_kept_conditions" "_kept_conditions" (defArgs sKC) (defBody sKC) (defScope sKC) .none kVKC dcKC pmKC anKC cdKC ctKC), slKC⟩)
    (cKC : PySem.W.codeIn K cdKC "_kept_conditions" = true)
    (kKC : PySem.W.keepIn K (.ref fKC) = true)
    (gKG : PySem.W.nsIn K mainGlobals "_kept_groups" = some (some (.ref fKG)))
    (lKG : K.lookup fKG = some ⟨ocKG, odKG, .func (PySem.W.fnOf "_kept_groups" "_kept_groups" (defArgs sKG) (defBody sKG) (defScope sKG) .none kVKG dcKG pmKG anKG cdKG ctKG), slKG⟩)
    (cKG : PySem.W.codeIn K cdKG "_kept_groups" = true)
    (kKG : PySem.W.keepIn K (.ref fKG) = true)
    (gMy : PySem.W.nsIn K mainGlobals "many_arrangements" = some (some (.ref fMy)))
    (lMy : K.lookup fMy = some ⟨ocMy, odMy, .func (PySem.W.fnOf "many_arrangements" "many_arrangements" (defArgs sMany) (defBody sMany) (defScope sMany) .none kVMy dcMy pmMy anMy cdMy ctMy), slMy⟩)
    (cMy : PySem.W.codeIn K cdMy "many_arrangements" = true)
    (kMy : PySem.W.keepIn K (.ref fMy) = true)
    (gPa : PySem.W.nsIn K mainGlobals "kept_parts" = some (some (.ref fPa)))
    (lPa : K.lookup fPa = some ⟨ocPa, odPa, .func (PySem.W.fnOf "kept_parts" "kept_parts" (defArgs sParts) (defBody sParts) (defScope sParts) .none kVPa dcPa pmPa anPa cdPa ctPa), slPa⟩)
    (cPa : PySem.W.codeIn K cdPa "kept_parts" = true)
    (kPa : PySem.W.keepIn K (.ref fPa) = true)
    (gPo : PySem.W.nsIn K mainGlobals "_parts_of" = some (some (.ref fPo)))
    (lPo : K.lookup fPo = some ⟨ocPo, odPo, .func (PySem.W.fnOf "_parts_of" "_parts_of" (defArgs sPartsOf) (defBody sPartsOf) (defScope sPartsOf) .none kVPo dcPo pmPo anPo cdPo ctPo), slPo⟩)
    (cPo : PySem.W.codeIn K cdPo "_parts_of" = true)
    (kPo : PySem.W.keepIn K (.ref fPo) = true)
    (gAd : PySem.W.nsIn K mainGlobals "_are_different_patterns" = some (some (.ref fAd)))
    (lAd : K.lookup fAd = some ⟨ocAd, odAd, .func (PySem.W.fnOf "_are_different_patterns" "_are_different_patterns" (defArgs sADP) (defBody sADP) (defScope sADP) .none kVAd dcAd pmAd anAd cdAd ctAd), slAd⟩)
    (cAd : PySem.W.codeIn K cdAd "_are_different_patterns" = true)
    (kAd : PySem.W.keepIn K (.ref fAd) = true)
    (pgCM : PySem.W.plainGet K CM Str.empty = true)
    (hdCM : PySem.W.hasDictIn K CM = true)
    (poCM : PySem.W.plainOver K CM = true)
    (saCM : PySem.W.findIn K (.ref CM) "__setattr__" = some (some (.builtin "object.__setattr__")))
    (n_wordsCM : PySem.W.findIn K (.ref CM) "_words" = some none)
    (n_restCM : PySem.W.findIn K (.ref CM) "_rest" = some none)
    (mkCM : PySem.W.makesIn K CM = true)
    (kcCM : PySem.W.keepIn K (.ref CM) = true)
    (pgCT : PySem.W.plainGet K CT Str.empty = true)
    (hdCT : PySem.W.hasDictIn K CT = true)
    (poCT : PySem.W.plainOver K CT = true)
    (saCT : PySem.W.findIn K (.ref CT) "__setattr__" = some (some (.builtin "object.__setattr__")))
    (n_wordsCT : PySem.W.findIn K (.ref CT) "_words" = some none)
    (n_restCT : PySem.W.findIn K (.ref CT) "_rest" = some none)
    (mkCT : PySem.W.makesIn K CT = true)
    (kcCT : PySem.W.keepIn K (.ref CT) = true)
    (pgCP : PySem.W.plainGet K CP Str.empty = true)
    (hdCP : PySem.W.hasDictIn K CP = true)
    (poCP : PySem.W.plainOver K CP = true)
    (saCP : PySem.W.findIn K (.ref CP) "__setattr__" = some (some (.builtin "object.__setattr__")))
    (n_lettersCP : PySem.W.findIn K (.ref CP) "_letters" = some none)
    (n_conditionsCP : PySem.W.findIn K (.ref CP) "_conditions" = some none)
    (n_groupsCP : PySem.W.findIn K (.ref CP) "_groups" = some none)
    (mkCP : PySem.W.makesIn K CP = true)
    (kcCP : PySem.W.keepIn K (.ref CP) = true)
    (pgCR : PySem.W.plainGet K CR Str.empty = true)
    (hdCR : PySem.W.hasDictIn K CR = true)
    (poCR : PySem.W.plainOver K CR = true)
    (saCR : PySem.W.findIn K (.ref CR) "__setattr__" = some (some (.builtin "object.__setattr__")))
    (n_patternsCR : PySem.W.findIn K (.ref CR) "_patterns" = some none)
    (mkCR : PySem.W.makesIn K CR = true)
    (kcCR : PySem.W.keepIn K (.ref CR) = true)
    (isaCM : PySem.W.findIn K (.ref CM) "__class__" = some (some (.builtin "object.__class__")))
    (ismCM : PySem.W.mroIn K CM (.type "object") = some true)
    (isoCM : PySem.W.kitOne K (.ref CM) (.ref CM) = some true)
    (isaCP : PySem.W.findIn K (.ref CP) "__class__" = some (some (.builtin "object.__class__")))
    (ismCP : PySem.W.mroIn K CP (.type "object") = some true)
    (isoCP : PySem.W.kitOne K (.ref CP) (.ref CP) = some true)
    (isaCR : PySem.W.findIn K (.ref CR) "__class__" = some (some (.builtin "object.__class__")))
    (ismCR : PySem.W.mroIn K CR (.type "object") = some true)
    (isoCR : PySem.W.kitOne K (.ref CR) (.ref CR) = some true)
    (isn : PySem.W.specialIn K (.builtin "object.__class__") "__get__" = some (some (.builtin "getset_descriptor.__get__")))
    (ist : PySem.W.takesIn K (.builtin "object.__class__") = some true)
    (aIn : PySem.W.findIn K (.ref CM) "__init__" = some (some (.ref fIn)))
    (iIn : PySem.W.isFn K (.ref fIn) = true)
    (lIn : K.lookup fIn = some ⟨ocIn, odIn, .func (PySem.W.fnOf "__init__" "Marking.__init__" (defArgs sInit) (defBody sInit) (defScope sInit) .none (.ref Dk) dcIn pmIn anIn cdIn ctIn), slIn⟩)
    (cIn : PySem.W.codeIn K cdIn "Marking.__init__" = true)
    (kIn : PySem.W.keepIn K (.ref fIn) = true)
    (dk : PySem.W.nsIn K Dk "other" = some (some (.str "nothing" tkd)))
    (aPi : PySem.W.findIn K (.ref CP) "__init__" = some (some (.ref fPi)))
    (iPi : PySem.W.isFn K (.ref fPi) = true)
    (lPi : K.lookup fPi = some ⟨ocPi, odPi, .func (PySem.W.fnOf "__init__" "Pattern.__init__" (defArgs sPInit) (defBody sPInit) (defScope sPInit) .none (.ref Dp1) dcPi pmPi anPi cdPi ctPi), slPi⟩)
    (cPi : PySem.W.codeIn K cdPi "Pattern.__init__" = true)
    (kPi : PySem.W.keepIn K (.ref fPi) = true)
    (dp1 : PySem.W.nsIn K Dp1 "conditions" = some (some (.ref e1)))
    (dp2 : PySem.W.nsIn K Dp1 "groups" = some (some (.ref e2)))
    (le1 : K.lookup e1 = some ⟨.type "tuple", dd1, .seq #[] ne1, sle1⟩)
    (le2 : K.lookup e2 = some ⟨.type "tuple", dd2, .seq #[] ne2, sle2⟩)
    (aRi : PySem.W.findIn K (.ref CR) "__init__" = some (some (.ref fRi)))
    (iRi : PySem.W.isFn K (.ref fRi) = true)
    (lRi : K.lookup fRi = some ⟨ocRi, odRi, .func (PySem.W.fnOf "__init__" "Rule.__init__" (defArgs sRInit) (defBody sRInit) (defScope sRInit) .none kVRi dcRi pmRi anRi cdRi ctRi), slRi⟩)
    (cRi : PySem.W.codeIn K cdRi "Rule.__init__" = true)
    (rdC : PySem.W.readsIn K CM mc = true)
    (gaC : PySem.W.specialIn K (.ref CM) "__getattribute__" = some (some (.builtin "type.__getattribute__")))
    (eOf : PySem.W.findIn K (.ref CM) "of" = some (some (.ref pOf)))
    (aOf : PySem.W.findCls K (.ref CM) mc "of" = some (.get (.builtin "classmethod.__get__") (.ref pOf) .none (.ref CM)))
    (rOf : PySem.W.recIn K pOf "classmethod" = some (.ref fOf :: rsOf))
    (iOf : PySem.W.fnIn K fOf = true)
    (lOf : K.lookup fOf = some ⟨ocOf, odOf, .func (PySem.W.fnOf "of" "Marking.of" (defArgs sOf) (defBody sOf) (defScope sOf) .none kVOf dcOf pmOf anOf cdOf ctOf), slOf⟩)
    (cOf : PySem.W.codeIn K cdOf "Marking.of" = true)
    (kOf : PySem.W.keepIn K (.ref fOf) = true)
    (eEv : PySem.W.findIn K (.ref CM) "even" = some (some (.ref pEv)))
    (aEv : PySem.W.findCls K (.ref CM) mc "even" = some (.get (.builtin "classmethod.__get__") (.ref pEv) .none (.ref CM)))
    (rEv : PySem.W.recIn K pEv "classmethod" = some (.ref fEv :: rsEv))
    (iEv : PySem.W.fnIn K fEv = true)
    (lEv : K.lookup fEv = some ⟨ocEv, odEv, .func (PySem.W.fnOf "even" "Marking.even" (defArgs sEven) (defBody sEven) (defScope sEven) .none kVEv dcEv pmEv anEv cdEv ctEv), slEv⟩)
    (cEv : PySem.W.codeIn K cdEv "Marking.even" = true)
    (kEv : PySem.W.keepIn K (.ref fEv) = true)
    (aKi : PySem.W.findIn K (.ref CM) "kinds" = some (some (.ref pKi)))
    (sKi : PySem.W.specialIn K (.ref pKi) "__get__" = some (some (.builtin "property.__get__")))
    (tKi : PySem.W.takesIn K (.ref pKi) = some true)
    (rKi : PySem.W.recIn K pKi "property" = some (.ref fKi :: rsKi))
    (lKi : K.lookup fKi = some ⟨ocKi, odKi, .func (PySem.W.fnOf "kinds" "Marking.kinds" (defArgs sKinds) (defBody sKinds) (defScope sKinds) .none kVKi dcKi pmKi anKi cdKi ctKi), slKi⟩)
    (cKi : PySem.W.codeIn K cdKi "Marking.kinds" = true)
    (kKi : PySem.W.keepIn K (.ref fKi) = true)
    (aWo : PySem.W.findIn K (.ref CM) "word_of" = some (some (.ref fWo)))
    (iWo : PySem.W.isFn K (.ref fWo) = true)
    (lWo : K.lookup fWo = some ⟨ocWo, odWo, .func (PySem.W.fnOf "word_of" "Marking.word_of" (defArgs sWordOf) (defBody sWordOf) (defScope sWordOf) .none kVWo dcWo pmWo anWo cdWo ctWo), slWo⟩)
    (cWo : PySem.W.codeIn K cdWo "Marking.word_of" = true)
    (kWo : PySem.W.keepIn K (.ref fWo) = true)
    (aWi : PySem.W.findIn K (.ref CM) "with_word" = some (some (.ref fWi)))
    (iWi : PySem.W.isFn K (.ref fWi) = true)
    (lWi : K.lookup fWi = some ⟨ocWi, odWi, .func (PySem.W.fnOf "with_word" "Marking.with_word" (defArgs sWith) (defBody sWith) (defScope sWith) .none kVWi dcWi pmWi anWi cdWi ctWi), slWi⟩)
    (cWi : PySem.W.codeIn K cdWi "Marking.with_word" = true)
    (kWi : PySem.W.keepIn K (.ref fWi) = true)
    (aAm : PySem.W.findIn K (.ref CM) "is_at_most" = some (some (.ref fAm)))
    (iAm : PySem.W.isFn K (.ref fAm) = true)
    (lAm : K.lookup fAm = some ⟨ocAm, odAm, .func (PySem.W.fnOf "is_at_most" "Marking.is_at_most" (defArgs sAtMost) (defBody sAtMost) (defScope sAtMost) .none kVAm dcAm pmAm anAm cdAm ctAm), slAm⟩)
    (cAm : PySem.W.codeIn K cdAm "Marking.is_at_most" = true)
    (kAm : PySem.W.keepIn K (.ref fAm) = true)
    (aGi : PySem.W.findIn K (.ref CM) "__getitem__" = some (some (.ref fGi)))
    (iGi : PySem.W.isFn K (.ref fGi) = true)
    (lGi : K.lookup fGi = some ⟨ocGi, odGi, .func (PySem.W.fnOf "__getitem__" "Marking.__getitem__" (defArgs sGet) (defBody sGet) (defScope sGet) .none kVGi dcGi pmGi anGi cdGi ctGi), slGi⟩)
    (cGi : PySem.W.codeIn K cdGi "Marking.__getitem__" = true)
    (kGi : PySem.W.keepIn K (.ref fGi) = true)
    (aOr : PySem.W.findIn K (.ref CM) "__or__" = some (some (.ref fOr)))
    (iOr : PySem.W.isFn K (.ref fOr) = true)
    (lOr : K.lookup fOr = some ⟨ocOr, odOr, .func (PySem.W.fnOf "__or__" "Marking.__or__" (defArgs sOr) (defBody sOr) (defScope sOr) .none kVOr dcOr pmOr anOr cdOr ctOr), slOr⟩)
    (cOr : PySem.W.codeIn K cdOr "Marking.__or__" = true)
    (kOr : PySem.W.keepIn K (.ref fOr) = true)
    (aAn : PySem.W.findIn K (.ref CM) "__and__" = some (some (.ref fAn)))
    (iAn : PySem.W.isFn K (.ref fAn) = true)
    (lAn : K.lookup fAn = some ⟨ocAn, odAn, .func (PySem.W.fnOf "__and__" "Marking.__and__" (defArgs sAnd) (defBody sAnd) (defScope sAnd) .none kVAn dcAn pmAn anAn cdAn ctAn), slAn⟩)
    (cAn : PySem.W.codeIn K cdAn "Marking.__and__" = true)
    (kAn : PySem.W.keepIn K (.ref fAn) = true)
    (aEq : PySem.W.findIn K (.ref CM) "__eq__" = some (some (.ref fEq)))
    (iEq : PySem.W.isFn K (.ref fEq) = true)
    (lEq : K.lookup fEq = some ⟨ocEq, odEq, .func (PySem.W.fnOf "__eq__" "Marking.__eq__" (defArgs sEq) (defBody sEq) (defScope sEq) .none kVEq dcEq pmEq anEq cdEq ctEq), slEq⟩)
    (cEq : PySem.W.codeIn K cdEq "Marking.__eq__" = true)
    (kEq : PySem.W.keepIn K (.ref fEq) = true)
    (aSt : PySem.W.findIn K (.ref CM) "__str__" = some (some (.ref fSt)))
    (iSt : PySem.W.isFn K (.ref fSt) = true)
    (lSt : K.lookup fSt = some ⟨ocSt, odSt, .func (PySem.W.fnOf "__str__" "Marking.__str__" (defArgs sStr) (defBody sStr) (defScope sStr) .none kVSt dcSt pmSt anSt cdSt ctSt), slSt⟩)
    (cSt : PySem.W.codeIn K cdSt "Marking.__str__" = true)
    (kSt : PySem.W.keepIn K (.ref fSt) = true)
    (aTk : PySem.W.findIn K (.ref CT) "__init__" = some (some (.ref fTk)))
    (iTk : PySem.W.isFn K (.ref fTk) = true)
    (lTk : K.lookup fTk = some ⟨ocTk, odTk, .func (PySem.W.fnOf "__init__" "TakenMarking.__init__" (defArgs sTaken) (defBody sTaken) (defScope sTaken) .none kVTk dcTk pmTk anTk cdTk ctTk), slTk⟩)
    (cTk : PySem.W.codeIn K cdTk "TakenMarking.__init__" = true)
    (kTk : PySem.W.keepIn K (.ref fTk) = true)
    (nGi : PySem.W.fnIn K fGi = true)
    (hsf : PySem.W.selfFirst K CM = true)
    (ror : PySem.W.findIn K (.ref CM) (dunderR (Operator.info .BitOr).2) = some none)
    (ran : PySem.W.findIn K (.ref CM) (dunderR (Operator.info .BitAnd).2) = some none)
    (nfc : PySem.W.notFirst K CM (.ref CM) = true)
    (hne : PySem.W.findIn K (.ref CM) "__ne__" = some (some (.builtin "object.__ne__")))
    (hob : PySem.W.subIn K (.ref CM) (.type "object") = some true)
    (qnon : PySem.W.kitOne K (.type "NoneType") (.ref CM) = some false)
    (onon : R0.rightB K CM "or" "NoneType" = true)
    (ynon : R0.rightB K CM "and" "NoneType" = true)
    (qint : PySem.W.kitOne K (.type "int") (.ref CM) = some false)
    (oint : R0.rightB K CM "or" "int" = true)
    (yint : R0.rightB K CM "and" "int" = true)
    (qstr : PySem.W.kitOne K (.type "str") (.ref CM) = some false)
    (ostr : R0.rightB K CM "or" "str" = true)
    (ystr : R0.rightB K CM "and" "str" = true)
    (qdict : PySem.W.kitOne K (.type "dict") (.ref CM) = some false)
    (odict : R0.rightB K CM "or" "dict" = true)
    (ydict : R0.rightB K CM "and" "dict" = true)
    (qtup : PySem.W.kitOne K (.type "tuple") (.ref CM) = some false)
    (otup : R0.rightB K CM "or" "tuple" = true)
    (ytup : R0.rightB K CM "and" "tuple" = true)
    (qlst : PySem.W.kitOne K (.type "list") (.ref CM) = some false)
    (olst : R0.rightB K CM "or" "list" = true)
    (ylst : R0.rightB K CM "and" "list" = true)
    (dN : PySem.W.kitOne K (.type "NoneType") (.type "dict") = some false)
    (dI : PySem.W.kitOne K (.type "int") (.type "dict") = some false)
    (dS : PySem.W.kitOne K (.type "str") (.type "dict") = some false)
    (dL : PySem.W.kitOne K (.type "list") (.type "dict") = some false)
    (dT : PySem.W.kitOne K (.type "tuple") (.type "dict") = some false)
    (dM : PySem.W.kitOne K (.ref CM) (.type "dict") = some false)
    (qR : PySem.W.kitOne K (.ref CR) (.ref CM) = some false)
    (cmr : CM ≠ CR)
    (sfR : PySem.W.selfFirst K CR = true)
    (oR : PySem.W.findIn K (.ref CR) (PySem.dunder "or") = some (some (.ref gOr)))
    (roR : PySem.W.findIn K (.ref CR) (dunderR "or") = some none)
    (sbR : PySem.W.subIn K (.ref CR) (.ref CM) = some false)
    (clR : (PySem.W.clsIn K CR).map (fun c => c.mro) = some [.ref CR, .type "object"])
    (anR : PySem.W.findIn K (.ref CR) (PySem.dunder "and") = some none)
    (raR : PySem.W.findIn K (.ref CR) (dunderR "and") = some none)
    (oan : PySem.W.findIn K (.type "object") (PySem.dunder "and") = some none)
    (ora : PySem.W.findIn K (.type "object") (dunderR "and") = some none)
    (xqCIM : PySem.W.excInitIn K CIM [.type "ValueError", .type "Exception", .type "BaseException", .type "object"] "ValueError.__new__" = true)
    (xiCIM : PySem.W.findIn K (.ref CIM) "__init__" = some (some (.builtin "ValueError.__init__")))
    (xbCIM : PySem.W.subIn K (.ref CIM) (.type "BaseException") = some true)
    (xtCIM : PySem.W.typeIn K (.ref CIM) = some (.type "type"))
    (xkCIM : PySem.W.keepIn K (.ref CIM) = true)
    (xgCIM : PySem.W.findIn K (.ref CIM) "__getattribute__" = some (some (.builtin "BaseException.__getattribute__")))
    (xaCIM : PySem.W.findIn K (.ref CIM) "__getattr__" = some none)
    (xdCIM : PySem.W.hasDictIn K CIM = true)
    (xcCIM : PySem.W.findIn K (.ref CIM) "__class__" = some (some (.builtin "object.__class__")))
    (xmCIM : PySem.W.mroIn K CIM (.type "object") = some true)
    (xlCIM : PySem.W.exmOne K (.ref CIM) (.ref CL) = some true)
    (xCIMCIM : PySem.W.kitOne K (.ref CIM) (.ref CIM) = some true)
    (xCIMCIN : PySem.W.kitOne K (.ref CIM) (.ref CIN) = some false)
    (xCIMCIO : PySem.W.kitOne K (.ref CIM) (.ref CIO) = some false)
    (xqCIN : PySem.W.excInitIn K CIN [.type "ValueError", .type "Exception", .type "BaseException", .type "object"] "ValueError.__new__" = true)
    (xiCIN : PySem.W.findIn K (.ref CIN) "__init__" = some (some (.builtin "ValueError.__init__")))
    (xbCIN : PySem.W.subIn K (.ref CIN) (.type "BaseException") = some true)
    (xtCIN : PySem.W.typeIn K (.ref CIN) = some (.type "type"))
    (xkCIN : PySem.W.keepIn K (.ref CIN) = true)
    (xgCIN : PySem.W.findIn K (.ref CIN) "__getattribute__" = some (some (.builtin "BaseException.__getattribute__")))
    (xaCIN : PySem.W.findIn K (.ref CIN) "__getattr__" = some none)
    (xdCIN : PySem.W.hasDictIn K CIN = true)
    (xcCIN : PySem.W.findIn K (.ref CIN) "__class__" = some (some (.builtin "object.__class__")))
    (xmCIN : PySem.W.mroIn K CIN (.type "object") = some true)
    (xlCIN : PySem.W.exmOne K (.ref CIN) (.ref CL) = some true)
    (xCINCIM : PySem.W.kitOne K (.ref CIN) (.ref CIM) = some false)
    (xCINCIN : PySem.W.kitOne K (.ref CIN) (.ref CIN) = some true)
    (xCINCIO : PySem.W.kitOne K (.ref CIN) (.ref CIO) = some false)
    (xqCIO : PySem.W.excInitIn K CIO [.type "ValueError", .type "Exception", .type "BaseException", .type "object"] "ValueError.__new__" = true)
    (xiCIO : PySem.W.findIn K (.ref CIO) "__init__" = some (some (.builtin "ValueError.__init__")))
    (xbCIO : PySem.W.subIn K (.ref CIO) (.type "BaseException") = some true)
    (xtCIO : PySem.W.typeIn K (.ref CIO) = some (.type "type"))
    (xkCIO : PySem.W.keepIn K (.ref CIO) = true)
    (xgCIO : PySem.W.findIn K (.ref CIO) "__getattribute__" = some (some (.builtin "BaseException.__getattribute__")))
    (xaCIO : PySem.W.findIn K (.ref CIO) "__getattr__" = some none)
    (xdCIO : PySem.W.hasDictIn K CIO = true)
    (xcCIO : PySem.W.findIn K (.ref CIO) "__class__" = some (some (.builtin "object.__class__")))
    (xmCIO : PySem.W.mroIn K CIO (.type "object") = some true)
    (xlCIO : PySem.W.exmOne K (.ref CIO) (.ref CL) = some true)
    (xCIOCIM : PySem.W.kitOne K (.ref CIO) (.ref CIM) = some false)
    (xCIOCIN : PySem.W.kitOne K (.ref CIO) (.ref CIN) = some false)
    (xCIOCIO : PySem.W.kitOne K (.ref CIO) (.ref CIO) = some true)
    (tab : PySem.W.tabIn K "_law_is_refused" = some (c0, P1))
    (ntb : PySem.W.noTabs K = true) :
    ∃ (c1 P1 : Addr) (fd : FuncData), PySem.W.tabIn K "_law_is_refused" = some (c1, P1) ∧ PySem.W.noTabs K = true ∧ (∀ (s : Shared) (v : Value), BindsTo s fd ⟨[v], []⟩ [("_law_script", v)]) ∧ ∀ base : Heap, K.In base → base.Ns mainGlobals mg → TabB base mg c1 P1 → FnOk l.prog w K mg base CX0 11 fa fd ["_law_script"] (spLaw47 K [(P1, qL)]) := by
  have e := hfa.symm.trans (PySem.W.mg_of X G gY)
  cases e
  have T : Bare mg := ⟨PySem.W.mg_none_of X G zint, PySem.W.mg_none_of X G zabs, PySem.W.mg_none_of X G zmax, PySem.W.mg_none_of X G zmin, PySem.W.mg_none_of X G zlen, PySem.W.mg_none_of X G zrng, PySem.W.mg_none_of X G zisi, PySem.W.mg_none_of X G zstr, PySem.W.mg_none_of X G ztup, PySem.W.mg_none_of X G zbool, PySem.W.mg_none_of X G zall, PySem.W.mg_none_of X G zany, PySem.W.mg_none_of X G zdict, PySem.W.mg_none_of X G zlist, PySem.W.mg_none_of X G zsort, PySem.W.mg_none_of X G ziter⟩
  have T2 : Bare2 mg := ⟨PySem.W.mg_none_of X G zset, PySem.W.mg_none_of X G zenm⟩
  have cst : Cst K mg := ⟨⟨_, PySem.W.mg_of X G aLN⟩, aW, PySem.W.mg_of X G aWS, ⟨_, lkW, rfl, rfl⟩, fun H => .inr ⟨_, _, _, lkW, rfl, rfl, (by show 3 ≤ sizeLine; rw [sizeLine_eq]; decide), .cons ⟨_, rfl⟩ (.cons ⟨_, rfl⟩ (.cons ⟨_, rfl⟩ .nil))⟩⟩
  have c2 : Cst2 mg := ⟨⟨_, PySem.W.mg_of X G aPL⟩, ⟨_, PySem.W.mg_of X G aAR⟩, ⟨_, PySem.W.mg_of X G aRU⟩⟩
  have cf : ClsF K CM := ⟨⟨pgCM, hdCM, poCM, saCM⟩, n_wordsCM, n_restCM⟩
  have cfT : ClsF K CT := ⟨⟨pgCT, hdCT, poCT, saCT⟩, n_wordsCT, n_restCT⟩
  have cp : ClsP K CP := ⟨⟨pgCP, hdCP, poCP, saCP⟩, n_lettersCP, n_conditionsCP, n_groupsCP⟩
  have crr : ClsR K CR := ⟨⟨pgCR, hdCR, poCR, saCR⟩, n_patternsCR⟩
  have is : IsF K CM CM := ⟨isaCM, isn, ist, ismCM, isoCM⟩
  have isP : IsF K CP CP := ⟨isaCP, isn, ist, ismCP, isoCP⟩
  have isR : IsF K CR CR := ⟨isaCR, isn, ist, ismCR, isoCR⟩
  have mM := PySem.W.mg_of X G aCM
  have mT' := PySem.W.mg_of X G aCT
  have mPt := PySem.W.mg_of X G aCP
  have mRu := PySem.W.mg_of X G aCR
  have mLe := PySem.W.mg_of X G aCL
  have cr : CRead K CM mc := ⟨rdC, gaC⟩
  obtain ⟨cdR, hcdR, hmR⟩ : ∃ cd, PySem.W.clsIn K CR = some cd ∧ cd.mro = [.ref CR, .type "object"] := by
    cases e : PySem.W.clsIn K CR with
    | none => rw [e] at clR; cases clR
    | some cd => rw [e] at clR; exact ⟨cd, rfl, Option.some.inj clR⟩
  have OF : OddF l.prog w K CM CR := ⟨⟨qnon, onon, ynon⟩, ⟨qint, oint, yint⟩, ⟨qstr, ostr, ystr⟩, ⟨qdict, odict, ydict⟩, ⟨qtup, otup, ytup⟩, ⟨qlst, olst, ylst⟩, crr.cl, isR, qR, fun _ X => right_own X cmr sfR oR roR (.inl rfl) sbR, fun _ X => right_none X cmr hcdR hmR anR raR oan ora⟩
  have VCIM : ExV K mg "InvalidMarking" CIM := ⟨PySem.W.mg_of X G aCIM, xqCIM, xiCIM, xbCIM, xtCIM, xkCIM⟩
  have RCIM : Refd K CL CIM CIN CIO CIM true false false := ⟨⟨xgCIM, xaCIM, xbCIM, xdCIM, xcCIM, isn, ist, xmCIM⟩, xlCIM, xCIMCIM, xCIMCIN, xCIMCIO⟩
  have VCIN : ExV K mg "InvalidName" CIN := ⟨PySem.W.mg_of X G aCIN, xqCIN, xiCIN, xbCIN, xtCIN, xkCIN⟩
  have RCIN : Refd K CL CIM CIN CIO CIN false true false := ⟨⟨xgCIN, xaCIN, xbCIN, xdCIN, xcCIN, isn, ist, xmCIN⟩, xlCIN, xCINCIM, xCINCIN, xCINCIO⟩
  have VCIO : ExV K mg "InvalidOperation" CIO := ⟨PySem.W.mg_of X G aCIO, xqCIO, xiCIO, xbCIO, xtCIO, xkCIO⟩
  have RCIO : Refd K CL CIM CIN CIO CIO false false true := ⟨⟨xgCIO, xaCIO, xbCIO, xdCIO, xcCIO, isn, ist, xmCIO⟩, xlCIO, xCIOCIM, xCIOCIN, xCIOCIO⟩
  have FN := fun_mk (st := sIsName) lN cN kN
  have bbN := FN.binds (ps := ["value"]) fun _ _ _ _ _ _ us hl => match us, hl with | [_], _ => rfl
  have mN := PySem.W.mg_of X G gN
  have FC := fun_mk (st := sCheck) lC cC kC
  have bbC := FC.binds (ps := ["words"]) fun _ _ _ _ _ _ us hl => match us, hl with | [_], _ => rfl
  have mC := PySem.W.mg_of X G gC
  have FK := fun_mk (st := sKept) lK cK kK
  have bbK := FK.binds (ps := ["words"]) fun _ _ _ _ _ _ us hl => match us, hl with | [_], _ => rfl
  have mK := PySem.W.mg_of X G gK
  have FL := fun_mk (st := sLess) lL cL kL
  have bbL := FL.binds (ps := ["word", "other"]) fun _ _ _ _ _ _ us hl => match us, hl with | [_, _], _ => rfl
  have mL := PySem.W.mg_of X G gL
  have FB := fun_mk (st := sBoth) lB cB kB
  have bbB := FB.binds (ps := ["one", "other"]) fun _ _ _ _ _ _ us hl => match us, hl with | [_, _], _ => rfl
  have mB := PySem.W.mg_of X G gB
  have FD := fun_mk (st := sDice) lD cD kD
  have bbD := FD.binds (ps := ["_law_script", "_law_at"]) fun _ _ _ _ _ _ us hl => match us, hl with | [_, _], _ => rfl
  have mD := PySem.W.mg_of X G gD
  have FU := fun_mk (st := sPull) lU cU kU
  have bbU := FU.binds (ps := ["_law_dice_here", "_law_total"]) fun _ _ _ _ _ _ us hl => match us, hl with | [_, _], _ => rfl
  have mU := PySem.W.mg_of X G gU
  have FP := fun_mk (st := sPick) lP cP kP
  have bbP := FP.binds (ps := ["_law_dice_here", "_law_items"]) fun _ _ _ _ _ _ us hl => match us, hl with | [_, _], _ => rfl
  have mP := PySem.W.mg_of X G gP
  have FNm := fun_mk (st := sNames) lNm cNm kNm
  have bbNm := FNm.binds (ps := ["_law_dice_here", "_law_total"]) fun _ _ _ _ _ _ us hl => match us, hl with | [_, _], _ => rfl
  have mNm := PySem.W.mg_of X G gNm
  have FW := fun_mk (st := sWords) lW cW kW
  have bbW := FW.binds (ps := ["_law_dice_here", "_law_kinds"]) fun _ _ _ _ _ _ us hl => match us, hl with | [_, _], _ => rfl
  have mW := PySem.W.mg_of X G gW
  have FLw := fun_mk (st := sLWord) lLw cLw kLw
  have bbLw := FLw.binds (ps := ["_law_words_here", "_law_kind"]) fun _ _ _ _ _ _ us hl => match us, hl with | [_, _], _ => rfl
  have mLw := PySem.W.mg_of X G gLw
  have FLv := fun_mk (st := sLevel) lLv cLv kLv
  have bbLv := FLv.binds (ps := ["_law_word_here"]) fun _ _ _ _ _ _ us hl => match us, hl with | [_], _ => rfl
  have mLv := PySem.W.mg_of X G gLv
  have FJ := fun_mk (st := sJoined) lJ cJ kJ
  have bbJ := FJ.binds (ps := ["_law_first", "_law_second", "_law_is_greater"]) fun _ _ _ _ _ _ us hl => match us, hl with | [_, _, _], _ => rfl
  have mJ := PySem.W.mg_of X G gJ
  have FWt := fun_mk (st := sWithin) lWt cWt kWt
  have bbWt := FWt.binds (ps := ["_law_first", "_law_second"]) fun _ _ _ _ _ _ us hl => match us, hl with | [_, _], _ => rfl
  have mWt := PySem.W.mg_of X G gWt
  have FRf := fun_mk (st := sRefused) lRf cRf kRf
  have bbRf := FRf.binds (ps := ["_law_call"]) fun _ _ _ _ _ _ us hl => match us, hl with | [_], _ => rfl
  have mRf := PySem.W.mg_of X G gRf
  have FR := fun_mk (st := sRight) lR cR kR
  have bbR := FR.binds (ps := ["_law_dice_here", "_law_kinds"]) fun _ _ _ _ _ _ us hl => match us, hl with | [_, _], _ => rfl
  have mR := PySem.W.mg_of X G gR
  have FIs := fun_mk (st := sIsRef) lIs cIs kIs
  have bbIs := FIs.binds (ps := ["_law_dice_here", "_law_kinds"]) fun _ _ _ _ _ _ us hl => match us, hl with | [_, _], _ => rfl
  have mIs := PySem.W.mg_of X G gIs
  have FY := fun_mk (st := sLaw47) lY cY kY
  have mY := PySem.W.mg_of X G gY
  have FDf := fun_mk (st := sDiff) lDf cDf kDf
  have bbDf := FDf.binds (ps := ["values"]) fun _ _ _ _ _ _ us hl => match us, hl with | [_], _ => rfl
  have mDf := PySem.W.mg_of X G gDf
  have FKK := fun_mk (st := sKK) lKK cKK kKK
  have bbKK := FKK.binds (ps := ["kinds"]) fun _ _ _ _ _ _ us hl => match us, hl with | [_], _ => rfl
  have mKK := PySem.W.mg_of X G gKK
  have FKL := fun_mk (st := sKL) lKL cKL kKL
  have bbKL := FKL.binds (ps := ["letters"]) fun _ _ _ _ _ _ us hl => match us, hl with | [_], _ => rfl
  have mKL := PySem.W.mg_of X G gKL
  have FKC := fun_mk (st := sKC) lKC cKC kKC
  have bbKC := FKC.binds (ps := ["letters", "conditions"]) fun _ _ _ _ _ _ us hl => match us, hl with | [_, _], _ => rfl
  have mKC := PySem.W.mg_of X G gKC
  have FKG := fun_mk (st := sKG) lKG cKG kKG
  have bbKG := FKG.binds (ps := ["letters", "groups"]) fun _ _ _ _ _ _ us hl => match us, hl with | [_, _], _ => rfl
  have mKG := PySem.W.mg_of X G gKG
  have FMy := fun_mk (st := sMany) lMy cMy kMy
  have bbMy := FMy.binds (ps := ["groups"]) fun _ _ _ _ _ _ us hl => match us, hl with | [_], _ => rfl
  have mMy := PySem.W.mg_of X G gMy
  have FPa := fun_mk (st := sParts) lPa cPa kPa
  have bbPa := FPa.binds (ps := ["letters", "conditions", "groups"]) fun _ _ _ _ _ _ us hl => match us, hl with | [_, _, _], _ => rfl
  have mPa := PySem.W.mg_of X G gPa
  have FPo := fun_mk (st := sPartsOf) lPo cPo kPo
  have bbPo := FPo.binds (ps := ["letters", "conditions", "groups"]) fun _ _ _ _ _ _ us hl => match us, hl with | [_, _, _], _ => rfl
  have mPo := PySem.W.mg_of X G gPo
  have FAd := fun_mk (st := sADP) lAd cAd kAd
  have bbAd := FAd.binds (ps := ["values"]) fun _ _ _ _ _ _ us hl => match us, hl with | [_], _ => rfl
  have mAd := PySem.W.mg_of X G gAd
  have FOf := fun_mk (st := sOf) lOf cOf kOf
  have bbOf := FOf.binds (ps := ["cls", "words"]) fun _ _ _ _ _ _ us hl => match us, hl with | [_, _], _ => rfl
  have FEv := fun_mk (st := sEven) lEv cEv kEv
  have bbEv := FEv.binds (ps := ["cls", "word"]) fun _ _ _ _ _ _ us hl => match us, hl with | [_, _], _ => rfl
  have FKi := fun_mk (st := sKinds) lKi cKi kKi
  have bbKi := FKi.binds (ps := ["self"]) fun _ _ _ _ _ _ us hl => match us, hl with | [_], _ => rfl
  have FWo := fun_mk (st := sWordOf) lWo cWo kWo
  have bbWo := FWo.binds (ps := ["self", "kind"]) fun _ _ _ _ _ _ us hl => match us, hl with | [_, _], _ => rfl
  have FWi := fun_mk (st := sWith) lWi cWi kWi
  have bbWi := FWi.binds (ps := ["self", "kind", "word"]) fun _ _ _ _ _ _ us hl => match us, hl with | [_, _, _], _ => rfl
  have FAm := fun_mk (st := sAtMost) lAm cAm kAm
  have bbAm := FAm.binds (ps := ["self", "value"]) fun _ _ _ _ _ _ us hl => match us, hl with | [_, _], _ => rfl
  have FGi := fun_mk (st := sGet) lGi cGi kGi
  have bbGi := FGi.binds (ps := ["self", "at"]) fun _ _ _ _ _ _ us hl => match us, hl with | [_, _], _ => rfl
  have FOr := fun_mk (st := sOr) lOr cOr kOr
  have bbOr := FOr.binds (ps := ["self", "other"]) fun _ _ _ _ _ _ us hl => match us, hl with | [_, _], _ => rfl
  have FAn := fun_mk (st := sAnd) lAn cAn kAn
  have bbAn := FAn.binds (ps := ["self", "other"]) fun _ _ _ _ _ _ us hl => match us, hl with | [_, _], _ => rfl
  have FEq := fun_mk (st := sEq) lEq cEq kEq
  have bbEq := FEq.binds (ps := ["self", "other"]) fun _ _ _ _ _ _ us hl => match us, hl with | [_, _], _ => rfl
  have FSt := fun_mk (st := sStr) lSt cSt kSt
  have bbSt := FSt.binds (ps := ["self"]) fun _ _ _ _ _ _ us hl => match us, hl with | [_], _ => rfl
  have FTk := fun_mk (st := sTaken) lTk cTk kTk
  have bbTk := FTk.binds (ps := ["self", "words"]) fun _ _ _ _ _ _ us hl => match us, hl with | [_, _], _ => rfl
  have FIn : FunD K "__init__" "Marking.__init__" (defArgs sInit) (defBody sInit) (defScope sInit) [] [("other", V.str w0)] fIn _ := ⟨⟨_, _, _, _, _, _, _, _, _, _, rfl, lIn, cIn, .inl ⟨rfl, rfl⟩, .inr ⟨Dk, rfl, fun q hq => by rw [List.mem_singleton.mp hq]; exact ⟨_, dk, ⟨_, rfl⟩⟩⟩⟩, kIn⟩
  have FPi : FunD K "__init__" "Pattern.__init__" (defArgs sPInit) (defBody sPInit) (defScope sPInit) [] [("conditions", V.ref e1), ("groups", V.ref e2)] fPi _ := ⟨⟨_, _, _, _, _, _, _, _, _, _, rfl, lPi, cPi, .inl ⟨rfl, rfl⟩, .inr ⟨Dp1, rfl, fun q hq => by
    rcases List.mem_cons.mp hq with rfl | hq
    · exact ⟨_, dp1, rfl⟩
    · rw [List.mem_singleton.mp hq]; exact ⟨_, dp2, rfl⟩⟩⟩, kPi⟩
  have hE1 : ∀ H, SqT K H e1 [] := fun H => .inr ⟨_, _, _, le1, rfl, rfl, Nat.zero_le _, .nil⟩
  have hE2 : ∀ H, SqT K H e2 [] := fun H => .inr ⟨_, _, _, le2, rfl, rfl, Nat.zero_le _, .nil⟩
  refine ⟨c0, P1, PySem.W.fnOf "law" "law" (defArgs sLaw47) (defBody sLaw47) (defScope sLaw47) .none kVY dcY pmY anY cdY ctY, tab, ntb, fun s v => .of_eq rfl, fun base _ _ TB => ?_⟩
  -- what answers
  have GN0 := ok_is_name (P := l.prog) (w := w) (mg := mg) (base := base) FN T cst
  have GK0 := ok_kept (P := l.prog) (w := w) (mg := mg) (base := base) FK T cst FN bbN mN FC bbC mC
  have GM := ok_init (P := l.prog) (w := w) (mg := mg) (base := base) FIn cf FK bbK mK GK0
  have GTk := ok_taken (P := l.prog) (w := w) (mg := mg) (base := base) (C := CT) FTk cfT FK bbK mK GK0
  have MM : Mk K CM fIn := ⟨mkCM, aIn, iIn, kcCM⟩
  have MT : Mk K CT fTk := ⟨mkCT, aTk, iTk, kcCT⟩
  have GOf := ok_of (P := l.prog) (w := w) (mg := mg) (base := base) FOf T cst FN bbN mN FC bbC mC MT GTk bbTk mT' MM GM mM
  have GO : FnR l.prog w K mg base CX0 6 fOf (spOf CM CT) := (GOf.raw bbOf .nil).imp fun vs H Q E h => by rw [List.append_nil]; exact h
  have GOg : FnR l.prog w K mg base CX0 6 fOf (spOfG CM) := GO.imp fun vs H Q E h => spOfG_imp vs H Q E h
  have cO : CMet K CM mc "of" pOf fOf := ⟨aOf, ⟨_, rOf⟩, iOf⟩
  have cV : CMet K CM mc "even" pEv fEv := ⟨aEv, ⟨_, rEv⟩, iEv⟩
  have GKi := ok_kinds (P := l.prog) (w := w) (mg := mg) (base := base) FKi T cf
  have pKi' : PropOf K CM "kinds" pKi fKi := ⟨aKi, sKi, tKi, ⟨_, rKi⟩⟩
  have GWo := ok_wordof (P := l.prog) (w := w) (mg := mg) (base := base) FWo cf
  have mWo : Meth K CM "word_of" fWo := ⟨aWo, iWo, kWo⟩
  have GL := ok_less (P := l.prog) (w := w) (mg := mg) (base := base) FL cst
  have GGi := ok_get (P := l.prog) (w := w) (mg := mg) (base := base) (C := CM) FGi T cst cf FN bbN mN FWo bbWo mWo
  have GAm := ok_atmost (P := l.prog) (w := w) (mg := mg) (base := base) FAm T cst cf is mM FKi bbKi pKi' FWo bbWo mWo FL bbL mL
  have mAm : Meth K CM "is_at_most" fAm := ⟨aAm, iAm, kAm⟩
  have GEq := ok_eq (P := l.prog) (w := w) (mg := mg) (base := base) FEq T cf is mM GAm bbAm mAm
  have GSt := ok_str (P := l.prog) (w := w) (mg := mg) (base := base) (C := CM) FSt cf
  have GB := ok_both (P := l.prog) (w := w) (mg := mg) (base := base) (C := CM) FB T cf is mM GKi bbKi pKi'
  have GOr := ok_or (P := l.prog) (w := w) (mg := mg) (base := base) FOr T cf GB bbB kB mB GWo bbWo mWo GL bbL kL mL mM cr cO GO
  have GAn := ok_and (P := l.prog) (w := w) (mg := mg) (base := base) FAn T cf GB bbB kB mB GWo bbWo mWo GL bbL kL mL mM cr cO GO
  have GU := ok_pull (P := l.prog) (w := w) (mg := mg) (base := base) FU T
  have GP := ok_pick (P := l.prog) (w := w) (mg := mg) (base := base) FP T FU bbU mU
  have GW := ok_words (P := l.prog) (w := w) (mg := mg) (base := base) FW T FU bbU mU FP bbP mP
  have GLw := ok_lword (P := l.prog) (w := w) (mg := mg) (base := base) FLw
  have GLv := ok_level (P := l.prog) (w := w) (mg := mg) (base := base) FLv
  have GJ := ok_joined (P := l.prog) (w := w) (mg := mg) (base := base) FJ T GLw bbLw kLw mLw GLv bbLv kLv mLv
  have GWt := ok_within (P := l.prog) (w := w) (mg := mg) (base := base) FWt T GLw bbLw kLw mLw GLv bbLv kLv mLv
  have GR := ok_right (P := l.prog) (w := w) (mg := mg) (base := base) FR T cf is nfc hsf hne hob GW bbW kW mW GU bbU kU mU (GJ.imp fun vs H Q E h => spJoinedG_imp vs H Q E h) bbJ kJ mJ (GWt.imp fun vs H Q E h => spWithinG_imp vs H Q E h) bbWt kWt mWt mM cr cO GOg GOr bbOr aOr iOr GAn bbAn aAn iAn (GAm.imp fun vs H Q E h => spAtMostG_imp vs H Q E h) bbAm mAm GEq bbEq aEq iEq
  -- what refuses
  have XC := bad_check (P := l.prog) (w := w) (mg := mg) (base := base) FC T cst VCIM FN bbN mN
  have XK := bad_kept (P := l.prog) (w := w) (mg := mg) (base := base) FK FC bbC mC XC
  have XI := bad_init (P := l.prog) (w := w) (mg := mg) (base := base) FIn bbK kK mK XK
  have XO := bad_of (P := l.prog) (w := w) (mg := mg) (base := base) (CM := CM) FOf bbC kC mC XC
  have XOr : FnR l.prog w K mg base (L2.CX l.prog w) 6 fOf (spOfX K CM CIM) := (XO.raw bbOf .nil).imp fun vs H Q E h => by rw [List.append_nil]; exact h
  have XE := bad_even (P := l.prog) (w := w) (mg := mg) (base := base) FEv MM XI mM
  have XEr : FnR l.prog w K mg base (L2.CX l.prog w) 6 fEv (spEvenX K CM CIM) := (XE.raw bbEv .nil).imp fun vs H Q E h => by rw [List.append_nil]; exact h
  have XG := bad_get (P := l.prog) (w := w) (mg := mg) (base := base) FGi T cst VCIN FN bbN mN
  have XW := bad_with (P := l.prog) (w := w) (mg := mg) (base := base) FWi T cst cf VCIN FN bbN mN mM cr cO XOr
  have XB := bad_both (P := l.prog) (w := w) (mg := mg) (base := base) FB T VCIO mM
  have XOo := bad_or (P := l.prog) (w := w) (mg := mg) (base := base) FOr XB bbB kB mB
  have XAn := bad_and (P := l.prog) (w := w) (mg := mg) (base := base) FAn XB bbB kB mB
  have XA := ok_atmost_no (P := l.prog) (w := w) (mg := mg) (base := base) FAm T mM
  -- a rule
  have GDf := ok_diff0 (P := l.prog) (w := w) (mg := mg) (base := base) FDf T T2
  have GKK := ok_kk (P := l.prog) (w := w) (mg := mg) (base := base) FKK
  have GKL := ok_kl (P := l.prog) (w := w) (mg := mg) (base := base) FKL T c2 GN0 bbN kN mN GKK bbKK kKK mKK
  have GKC := ok_kc (P := l.prog) (w := w) (mg := mg) (base := base) FKC T T2
  have GKG := ok_kg (P := l.prog) (w := w) (mg := mg) (base := base) FKG T T2 GDf bbDf kDf mDf
  have GMy := ok_many (P := l.prog) (w := w) (mg := mg) (base := base) FMy
  have GPa := ok_parts (P := l.prog) (w := w) (mg := mg) (base := base) FPa GKL bbKL kKL mKL GKC bbKC kKC mKC GKG bbKG kKG mKG
  have GPo := ok_partsof (P := l.prog) (w := w) (mg := mg) (base := base) FPo c2 GPa bbPa kPa mPa GMy bbMy kMy mMy
  have GPi := ok_pinit (P := l.prog) (w := w) (mg := mg) (base := base) FPi cp GPo bbPo kPo mPo
  have GAd := ok_adp (P := l.prog) (w := w) (mg := mg) (base := base) FAd T T2 cp.cl isP mPt
  have GRi := ok_rinit (P := l.prog) (w := w) (mg := mg) (base := base) lRi cRi T c2 crr GAd bbAd kAd mAd
  have MP : Mk K CP fPi := ⟨mkCP, aPi, iPi, kcCP⟩
  have MR : Mk K CR fRi := ⟨mkCR, aRi, iRi, kcCR⟩
  have RR : RE l.prog w K mg base CM CR CL CIM CIN CIO fOf pOf fEv pEv fIn fGi fWi fOr fAn fAm fP fRf P1 c0 mc _ _ _ _ _ _ _ :=
    ⟨T, OF, cf, is, hsf, mM, mLe, VCIM.g, VCIN.g, VCIO.g, RCIM, RCIN, RCIO, cr, cO, XOr, cV, XEr, MM, XI, XG, bbGi, aGi, iGi, nGi, XW, bbWi, ⟨aWi, iWi, kWi⟩, XOo, bbOr, aOr, iOr, ror, XAn, bbAn, aAn, iAn, ran, GP, bbP, kP, mP, FRf, bbRf, mRf, TB, XA, bbAm, mAm, dN, dI, dS, dL, dT, dM⟩
  have GIs := ok_isref FIs rfl RR GW bbW kW mW GOg MP GPi hE1 hE2 mPt MR GRi mRu
  exact ok_law47 FY T cf hsf (ok_dice FD T) mD kD bbD GU mU kU bbU (ok_names FNm T FU bbU mU) mNm kNm bbNm GR mR kR bbR GIs mIs kIs bbIs mM cr cO GO GOr bbOr aOr iOr GAn bbAn aAn iAn GAm bbAm mAm GGi bbGi aGi iGi nGi GSt bbSt aSt iSt GKi bbKi pKi'
end M46


open PySem PySem.W PyProof.Rows
set_option maxRecDepth 100000 in
set_option maxHeartbeats 0 in
theorem PySem.Challenge.cw_letterrules_k47_markings_joined_holds : PySem.Challenge.rw_letterrules_k47_markings_joined.Holds := by
  w_on; o_law; k_head; (case hw => w_witness2)
  k_fill
  refine M46.walk_T1 (l := PySem.Challenge.rw_letterrules_k47_markings_joined) (n := 63) (k := 11) (x := "_law_script") (y1 := "_law_is_refused") (sp := fun w P1 => M46.spLaw47 _ [(P1, M46.qL)]) rfl (by decide) rfl ⟨rfl, by decide, by decide⟩ (by kernel_rfl) (fun w h Y => (by first | exact PySem.W.km_in_of Y | exact PySem.W.kIn_of Y)) ?F (fun _ _ _ a ns hl h1 hS => ⟨a, ns, rfl, hS, hl, fun p hp => by rw [List.mem_singleton.mp hp]; exact LamX.TabS.nil h1, fun _ => rfl⟩)
  case F =>
    intro w mg fa h KX G hmg
    refine' M46.all_mk47 (mc := .type "type") (P1 := 744) KX G hmg ?aCM ?aCT ?aCP ?aCR ?aCL ?aCIM ?aCIN ?aCIO ?aLN ?aPL ?aAR ?aRU ?aWS ?lkW ?zint ?zabs ?zmax ?zmin ?zlen ?zrng ?zisi ?zstr ?ztup ?zbool ?zall ?zany ?zdict ?zlist ?zsort ?ziter ?zset ?zenm ?gN ?lN ?cN ?kN ?gC ?lC ?cC ?kC ?gK ?lK ?cK ?kK ?gL ?lL ?cL ?kL ?gB ?lB ?cB ?kB ?gD ?lD ?cD ?kD ?gU ?lU ?cU ?kU ?gP ?lP ?cP ?kP ?gNm ?lNm ?cNm ?kNm ?gW ?lW ?cW ?kW ?gLw ?lLw ?cLw ?kLw ?gLv ?lLv ?cLv ?kLv ?gJ ?lJ ?cJ ?kJ ?gWt ?lWt ?cWt ?kWt ?gRf ?lRf ?cRf ?kRf ?gR ?lR ?cR ?kR ?gIs ?lIs ?cIs ?kIs ?gY ?lY ?cY ?kY ?gDf ?lDf ?cDf ?kDf ?gKK ?lKK ?cKK ?kKK ?gKL ?lKL ?cKL ?kKL ?gKC ?lKC ?cKC ?kKC ?gKG ?lKG ?cKG ?kKG ?gMy ?lMy ?cMy ?kMy ?gPa ?lPa ?cPa ?kPa ?gPo ?lPo ?cPo ?kPo ?gAd ?lAd ?cAd ?kAd ?pgCM ?hdCM ?poCM ?saCM ?n_wordsCM ?n_restCM ?mkCM ?kcCM ?pgCT ?hdCT ?poCT ?saCT ?n_wordsCT ?n_restCT ?mkCT ?kcCT ?pgCP ?hdCP ?poCP ?saCP ?n_lettersCP ?n_conditionsCP ?n_groupsCP ?mkCP ?kcCP ?pgCR ?hdCR ?poCR ?saCR ?n_patternsCR ?mkCR ?kcCR ?isaCM ?ismCM ?isoCM ?isaCP ?ismCP ?isoCP ?isaCR ?ismCR ?isoCR ?isn ?ist ?aIn ?iIn ?lIn ?cIn ?kIn ?dk ?aPi ?iPi ?lPi ?cPi ?kPi ?dp1 ?dp2 ?le1 ?le2 ?aRi ?iRi ?lRi ?cRi ?rdC ?gaC ?eOf ?aOf ?rOf ?iOf ?lOf ?cOf ?kOf ?eEv ?aEv ?rEv ?iEv ?lEv ?cEv ?kEv ?aKi ?sKi ?tKi ?rKi ?lKi ?cKi ?kKi ?aWo ?iWo ?lWo ?cWo ?kWo ?aWi ?iWi ?lWi ?cWi ?kWi ?aAm ?iAm ?lAm ?cAm ?kAm ?aGi ?iGi ?lGi ?cGi ?kGi ?aOr ?iOr ?lOr ?cOr ?kOr ?aAn ?iAn ?lAn ?cAn ?kAn ?aEq ?iEq ?lEq ?cEq ?kEq ?aSt ?iSt ?lSt ?cSt ?kSt ?aTk ?iTk ?lTk ?cTk ?kTk ?nGi ?hsf ?ror ?ran ?nfc ?hne ?hob ?qnon ?onon ?ynon ?qint ?oint ?yint ?qstr ?ostr ?ystr ?qdict ?odict ?ydict ?qtup ?otup ?ytup ?qlst ?olst ?ylst ?dN ?dI ?dS ?dL ?dT ?dM ?qR ?cmr ?sfR ?oR ?roR ?sbR ?clR ?anR ?raR ?oan ?ora ?xqCIM ?xiCIM ?xbCIM ?xtCIM ?xkCIM ?xgCIM ?xaCIM ?xdCIM ?xcCIM ?xmCIM ?xlCIM ?xCIMCIM ?xCIMCIN ?xCIMCIO ?xqCIN ?xiCIN ?xbCIN ?xtCIN ?xkCIN ?xgCIN ?xaCIN ?xdCIN ?xcCIN ?xmCIN ?xlCIN ?xCINCIM ?xCINCIN ?xCINCIO ?xqCIO ?xiCIO ?xbCIO ?xtCIO ?xkCIO ?xgCIO ?xaCIO ?xdCIO ?xcCIO ?xmCIO ?xlCIO ?xCIOCIM ?xCIOCIN ?xCIOCIO ?tab ?ntb
    (case aCM => k_is)
    (case aCT => k_is)
    (case aCP => k_is)
    (case aCR => k_is)
    (case aCL => k_is)
    (case aCIM => k_is)
    (case aCIN => k_is)
    (case aCIO => k_is)
    (case aLN => k_is)
    (case aPL => k_is)
    (case aAR => k_is)
    (case aRU => k_is)
    (case aWS => k_is)
    (case lkW => k_is)
    (case zint => k_is)
    (case zabs => k_is)
    (case zmax => k_is)
    (case zmin => k_is)
    (case zlen => k_is)
    (case zrng => k_is)
    (case zisi => k_is)
    (case zstr => k_is)
    (case ztup => k_is)
    (case zbool => k_is)
    (case zall => k_is)
    (case zany => k_is)
    (case zdict => k_is)
    (case zlist => k_is)
    (case zsort => k_is)
    (case ziter => k_is)
    (case zset => k_is)
    (case zenm => k_is)
    (case gN => k_is)
    (case lN => k_is)
    (case cN => k_is)
    (case kN => k_is)
    (case gC => k_is)
    (case lC => k_is)
    (case cC => k_is)
    (case kC => k_is)
    (case gK => k_is)
    (case lK => k_is)
    (case cK => k_is)
    (case kK => k_is)
    (case gL => k_is)
    (case lL => k_is)
    (case cL => k_is)
    (case kL => k_is)
    (case gB => k_is)
    (case lB => k_is)
    (case cB => k_is)
    (case kB => k_is)
    (case gD => k_is)
    (case lD => k_is)
    (case cD => k_is)
    (case kD => k_is)
    (case gU => k_is)
    (case lU => k_is)
    (case cU => k_is)
    (case kU => k_is)
    (case gP => k_is)
    (case lP => k_is)
    (case cP => k_is)
    (case kP => k_is)
    (case gNm => k_is)
    (case lNm => k_is)
    (case cNm => k_is)
    (case kNm => k_is)
    (case gW => k_is)
    (case lW => k_is)
    (case cW => k_is)
    (case kW => k_is)
    (case gLw => k_is)
    (case lLw => k_is)
    (case cLw => k_is)
    (case kLw => k_is)
    (case gLv => k_is)
    (case lLv => k_is)
    (case cLv => k_is)
    (case kLv => k_is)
    (case gJ => k_is)
    (case lJ => k_is)
    (case cJ => k_is)
    (case kJ => k_is)
    (case gWt => k_is)
    (case lWt => k_is)
    (case cWt => k_is)
    (case kWt => k_is)
    (case gRf => k_is)
    (case lRf => k_is)
    (case cRf => k_is)
    (case kRf => k_is)
    (case gR => k_is)
    (case lR => k_is)
    (case cR => k_is)
    (case kR => k_is)
    (case gIs => k_is)
    (case lIs => k_is)
    (case cIs => k_is)
    (case kIs => k_is)
    (case gY => k_is)
    (case lY => k_is)
    (case cY => k_is)
    (case kY => k_is)
    (case gDf => k_is)
    (case lDf => k_is)
    (case cDf => k_is)
    (case kDf => k_is)
    (case gKK => k_is)
    (case lKK => k_is)
    (case cKK => k_is)
    (case kKK => k_is)
    (case gKL => k_is)
    (case lKL => k_is)
    (case cKL => k_is)
    (case kKL => k_is)
    (case gKC => k_is)
    (case lKC => k_is)
    (case cKC => k_is)
    (case kKC => k_is)
    (case gKG => k_is)
    (case lKG => k_is)
    (case cKG => k_is)
    (case kKG => k_is)
    (case gMy => k_is)
    (case lMy => k_is)
    (case cMy => k_is)
    (case kMy => k_is)
    (case gPa => k_is)
    (case lPa => k_is)
    (case cPa => k_is)
    (case kPa => k_is)
    (case gPo => k_is)
    (case lPo => k_is)
    (case cPo => k_is)
    (case kPo => k_is)
    (case gAd => k_is)
    (case lAd => k_is)
    (case cAd => k_is)
    (case kAd => k_is)
    (case pgCM => k_is)
    (case hdCM => k_is)
    (case poCM => k_is)
    (case saCM => k_is)
    (case n_wordsCM => k_is)
    (case n_restCM => k_is)
    (case mkCM => k_is)
    (case kcCM => k_is)
    (case pgCT => k_is)
    (case hdCT => k_is)
    (case poCT => k_is)
    (case saCT => k_is)
    (case n_wordsCT => k_is)
    (case n_restCT => k_is)
    (case mkCT => k_is)
    (case kcCT => k_is)
    (case pgCP => k_is)
    (case hdCP => k_is)
    (case poCP => k_is)
    (case saCP => k_is)
    (case n_lettersCP => k_is)
    (case n_conditionsCP => k_is)
    (case n_groupsCP => k_is)
    (case mkCP => k_is)
    (case kcCP => k_is)
    (case pgCR => k_is)
    (case hdCR => k_is)
    (case poCR => k_is)
    (case saCR => k_is)
    (case n_patternsCR => k_is)
    (case mkCR => k_is)
    (case kcCR => k_is)
    (case isaCM => first | k_is | kernel_rfl)
    (case ismCM => first | k_is | kernel_rfl)
    (case isoCM => first | k_is | kernel_rfl)
    (case isaCP => first | k_is | kernel_rfl)
    (case ismCP => first | k_is | kernel_rfl)
    (case isoCP => first | k_is | kernel_rfl)
    (case isaCR => first | k_is | kernel_rfl)
    (case ismCR => first | k_is | kernel_rfl)
    (case isoCR => first | k_is | kernel_rfl)
    (case isn => first | k_is | kernel_rfl)
    (case ist => first | k_is | kernel_rfl)
    (case aIn => k_is)
    (case iIn => k_is)
    (case lIn => k_is)
    (case cIn => k_is)
    (case kIn => k_is)
    (case dk => k_is)
    (case aPi => k_is)
    (case iPi => k_is)
    (case lPi => k_is)
    (case cPi => k_is)
    (case kPi => k_is)
    (case dp1 => k_is)
    (case dp2 => k_is)
    (case le1 => k_is)
    (case le2 => k_is)
    (case aRi => k_is)
    (case iRi => k_is)
    (case lRi => k_is)
    (case cRi => k_is)
    (case rdC => first | k_is | kernel_rfl)
    (case gaC => first | k_is | kernel_rfl)
    (case eOf => k_is)
    (case aOf => first | k_is | kernel_rfl)
    (case rOf => first | k_is | kernel_rfl)
    (case iOf => first | k_is | kernel_rfl)
    (case lOf => k_is)
    (case cOf => k_is)
    (case kOf => k_is)
    (case eEv => k_is)
    (case aEv => first | k_is | kernel_rfl)
    (case rEv => first | k_is | kernel_rfl)
    (case iEv => first | k_is | kernel_rfl)
    (case lEv => k_is)
    (case cEv => k_is)
    (case kEv => k_is)
    (case aKi => k_is)
    (case sKi => first | k_is | kernel_rfl)
    (case tKi => first | k_is | kernel_rfl)
    (case rKi => first | k_is | kernel_rfl)
    (case lKi => k_is)
    (case cKi => k_is)
    (case kKi => k_is)
    (case aWo => k_is)
    (case iWo => k_is)
    (case lWo => k_is)
    (case cWo => k_is)
    (case kWo => k_is)
    (case aWi => k_is)
    (case iWi => k_is)
    (case lWi => k_is)
    (case cWi => k_is)
    (case kWi => k_is)
    (case aAm => k_is)
    (case iAm => k_is)
    (case lAm => k_is)
    (case cAm => k_is)
    (case kAm => k_is)
    (case aGi => k_is)
    (case iGi => k_is)
    (case lGi => k_is)
    (case cGi => k_is)
    (case kGi => k_is)
    (case aOr => k_is)
    (case iOr => k_is)
    (case lOr => k_is)
    (case cOr => k_is)
    (case kOr => k_is)
    (case aAn => k_is)
    (case iAn => k_is)
    (case lAn => k_is)
    (case cAn => k_is)
    (case kAn => k_is)
    (case aEq => k_is)
    (case iEq => k_is)
    (case lEq => k_is)
    (case cEq => k_is)
    (case kEq => k_is)
    (case aSt => k_is)
    (case iSt => k_is)
    (case lSt => k_is)
    (case cSt => k_is)
    (case kSt => k_is)
    (case aTk => k_is)
    (case iTk => k_is)
    (case lTk => k_is)
    (case cTk => k_is)
    (case kTk => k_is)
    (case nGi => first | k_is | kernel_rfl)
    (case hsf => first | k_is | kernel_rfl)
    (case ror => first | k_is | kernel_rfl)
    (case ran => first | k_is | kernel_rfl)
    (case nfc => first | k_is | kernel_rfl)
    (case hne => first | k_is | kernel_rfl)
    (case hob => first | k_is | kernel_rfl)
    (case qnon => first | k_is | kernel_rfl)
    (case onon => first | k_is | kernel_rfl)
    (case ynon => first | k_is | kernel_rfl)
    (case qint => first | k_is | kernel_rfl)
    (case oint => first | k_is | kernel_rfl)
    (case yint => first | k_is | kernel_rfl)
    (case qstr => first | k_is | kernel_rfl)
    (case ostr => first | k_is | kernel_rfl)
    (case ystr => first | k_is | kernel_rfl)
    (case qdict => first | k_is | kernel_rfl)
    (case odict => first | k_is | kernel_rfl)
    (case ydict => first | k_is | kernel_rfl)
    (case qtup => first | k_is | kernel_rfl)
    (case otup => first | k_is | kernel_rfl)
    (case ytup => first | k_is | kernel_rfl)
    (case qlst => first | k_is | kernel_rfl)
    (case olst => first | k_is | kernel_rfl)
    (case ylst => first | k_is | kernel_rfl)
    (case dN => first | k_is | kernel_rfl)
    (case dI => first | k_is | kernel_rfl)
    (case dS => first | k_is | kernel_rfl)
    (case dL => first | k_is | kernel_rfl)
    (case dT => first | k_is | kernel_rfl)
    (case dM => first | k_is | kernel_rfl)
    (case qR => first | k_is | kernel_rfl)
    (case cmr => decide)
    (case sfR => first | k_is | kernel_rfl)
    (case oR => first | k_is | kernel_rfl)
    (case roR => first | k_is | kernel_rfl)
    (case sbR => first | k_is | kernel_rfl)
    (case clR => kernel_rfl)
    (case anR => first | k_is | kernel_rfl)
    (case raR => first | k_is | kernel_rfl)
    (case oan => first | k_is | kernel_rfl)
    (case ora => first | k_is | kernel_rfl)
    (case xqCIM => kernel_rfl)
    (case xiCIM => k_is)
    (case xbCIM => k_is)
    (case xtCIM => k_is)
    (case xkCIM => k_is)
    (case xgCIM => first | k_is | kernel_rfl)
    (case xaCIM => first | k_is | kernel_rfl)
    (case xdCIM => first | k_is | kernel_rfl)
    (case xcCIM => first | k_is | kernel_rfl)
    (case xmCIM => first | k_is | kernel_rfl)
    (case xlCIM => first | k_is | kernel_rfl)
    (case xCIMCIM => first | k_is | kernel_rfl)
    (case xCIMCIN => first | k_is | kernel_rfl)
    (case xCIMCIO => first | k_is | kernel_rfl)
    (case xqCIN => kernel_rfl)
    (case xiCIN => k_is)
    (case xbCIN => k_is)
    (case xtCIN => k_is)
    (case xkCIN => k_is)
    (case xgCIN => first | k_is | kernel_rfl)
    (case xaCIN => first | k_is | kernel_rfl)
    (case xdCIN => first | k_is | kernel_rfl)
    (case xcCIN => first | k_is | kernel_rfl)
    (case xmCIN => first | k_is | kernel_rfl)
    (case xlCIN => first | k_is | kernel_rfl)
    (case xCINCIM => first | k_is | kernel_rfl)
    (case xCINCIN => first | k_is | kernel_rfl)
    (case xCINCIO => first | k_is | kernel_rfl)
    (case xqCIO => kernel_rfl)
    (case xiCIO => k_is)
    (case xbCIO => k_is)
    (case xtCIO => k_is)
    (case xkCIO => k_is)
    (case xgCIO => first | k_is | kernel_rfl)
    (case xaCIO => first | k_is | kernel_rfl)
    (case xdCIO => first | k_is | kernel_rfl)
    (case xcCIO => first | k_is | kernel_rfl)
    (case xmCIO => first | k_is | kernel_rfl)
    (case xlCIO => first | k_is | kernel_rfl)
    (case xCIOCIM => first | k_is | kernel_rfl)
    (case xCIOCIN => first | k_is | kernel_rfl)
    (case xCIOCIO => first | k_is | kernel_rfl)
    (case tab => first | kernel_rfl | exact rfl | k_is)
    (case ntb => kernel_rfl)
    all_goals exact #[]

