import PyProof.Rows.All
import Wide.All
import OpenK.AllK
import Wide.FinOn
import HandS.ForMost
import HandS.StrMore
import PyProof.Rows.TmSorted
import PyProof.Rows.StrMeet
import HandS.Dict
import HandS.Star
import HandS.Conv
import KE.KDictSum
import PyProof.DictUpdate
import HandS.Defaults
import HandS.MakeKwOnly
import HandS.OwnEq
import KE.KCallOwn
import HandS.IsInst
import PyProof.InstEq
import HandS.OwnIter
import HandS.ExcValue
import HandS.Iter
import HandS.Comp
import HandS.DictComp
import PyProof.EqAt
import HandS.Strs
import PySem.Challenge.RW_letterrules_k46_markings_by_kinds
import HandS.Property
import HandS.WordsDict
import HandS.FStr
import HandS.ClsMeth
import HandS.Wide
import HandS.ListItems
import HandS.RaiseMore
import PyProof.Rows.ReprOcc
import HandS.Style
set_option Elab.async false
set_option linter.all false
set_option maxRecDepth 100000
set_option maxHeartbeats 4000000
/-! The names in their order: of one letter, of two. -/
namespace K1
open PySem PySem.Spec PyProof.Rows L2

/-- the letters of the name whose number is left - 1, ahead of acc -/
def go : Nat → Nat → List Nat → List Nat
  | 0, _, acc => acc
  | _ + 1, 0, acc => acc
  | f + 1, left + 1, acc => go f (left / 26) ((97 + left % 26) :: acc)
theorem go_fuel : ∀ (f g left : Nat) (acc : List Nat), left ≤ f → left ≤ g → go f left acc = go g left acc
  | 0, 0, _, _, _, _ => rfl
  | 0, g + 1, left, acc, h, _ => by
    obtain rfl : left = 0 := by omega
    rfl
  | f + 1, 0, left, acc, _, h => by
    obtain rfl : left = 0 := by omega
    rfl
  | f + 1, g + 1, 0, acc, _, _ => rfl
  | f + 1, g + 1, left + 1, acc, h1, h2 => by
    show go f (left / 26) _ = go g (left / 26) _
    exact go_fuel f g _ _ (by omega) (by omega)
def nmL (n : Nat) : List Nat := go (n + 1) (n + 1) []
def nmS (n : Nat) : PySem.Str := ⟨(nmL n).toArray⟩
def alpha : PySem.Str := "abcdefghijklmnopqrstuvwxyz"
/-- the number of a name of one or two letters -/
def dec : List Nat → Nat
  | [a] => a - 97
  | [a, b] => 26 * (a - 96) + (b - 97)
  | _ => 0
theorem dec_nm {k : Nat} (h : k < 702) : dec (nmS k).cps.toList = k := by
  have z : ((List.range 702).all fun k => dec (nmL k) == k) = true := by decide +kernel
  have := List.all_eq_true.mp z k (List.mem_range.mpr h)
  show dec (nmL k).toArray.toList = k
  simpa using this
theorem nm_inj {j k : Nat} (hj : j < 702) (hk : k < 702) (h : nmS j = nmS k) : j = k := by
  rw [← dec_nm hj, ← dec_nm hk, h]
def first (bar : List PySem.Str) (k : Nat) : List PySem.Str := ((List.range k).map nmS).filter fun x => decide (x ∉ bar)
theorem first_zero (bar : List PySem.Str) : first bar 0 = [] := rfl
theorem first_succ (bar : List PySem.Str) (k : Nat) : first bar (k + 1) = first bar k ++ if nmS k ∈ bar then [] else [nmS k] := by
  unfold first
  rw [List.range_succ, List.map_append, List.filter_append]
  congr 1
  by_cases h : nmS k ∈ bar
  · rw [if_pos h]; simp [h]
  · rw [if_neg h]; simp [h]
theorem first_add (bar : List PySem.Str) (k j : Nat) : ∃ r, first bar (k + j) = first bar k ++ r := by
  induction j with
  | zero => exact ⟨[], by simp⟩
  | succ j ih =>
    obtain ⟨r, e⟩ := ih
    exact ⟨_, by rw [← Nat.add_assoc, first_succ, e, List.append_assoc]⟩
/-- a list without equal things all of which are in another is no longer than that -/
theorem nodup_sub {α : Type} [DecidableEq α] : ∀ {l m : List α}, l.Nodup → (∀ x ∈ l, x ∈ m) → l.length ≤ m.length
  | [], _, _, _ => Nat.zero_le _
  | a :: l, m, hn, hs => by
    have ha : a ∈ m := hs a (by simp)
    have hn' := List.nodup_cons.mp hn
    have := nodup_sub (l := l) (m := m.erase a) hn'.2 fun x hx => (List.mem_erase_of_ne (fun e : x = a => hn'.1 (by rw [← e] <;> exact hx))).mpr (hs x (by simp [hx]))
    rw [List.length_erase_of_mem ha] at this
    have hp : 0 < m.length := List.length_pos_of_mem ha
    simp only [List.length_cons]; omega
theorem filter_not_len {α : Type} (p : α → Bool) : ∀ l : List α, (l.filter p).length + (l.filter fun x => !p x).length = l.length
  | [] => rfl
  | a :: l => by
    have := filter_not_len p l
    cases h : p a <;> simp [h] <;> omega
theorem nms_nodup : ((List.range 702).map nmS).Nodup := by
  show List.Pairwise (· ≠ ·) _
  rw [List.pairwise_map]
  have h : (List.range 702).Pairwise (· ≠ ·) := List.nodup_range
  refine List.Pairwise.imp_of_mem (fun {a b} ha hb hne e => hne (nm_inj (List.mem_range.mp ha) (List.mem_range.mp hb) e)) h
theorem first_long (bar : List PySem.Str) : 702 ≤ (first bar 702).length + bar.length := by
  have e := filter_not_len (fun x => decide (x ∉ bar)) ((List.range 702).map nmS)
  have hb : ((((List.range 702).map nmS).filter fun x => !decide (x ∉ bar))).length ≤ bar.length := by
    refine nodup_sub (nms_nodup.sublist List.filter_sublist) fun x hx => ?_
    have := (List.mem_filter.mp hx).2
    simpa using this
  have hl : ((List.range 702).map nmS).length = 702 := by simp
  rw [hl] at e
  unfold first
  omega
theorem first_mono (bar : List PySem.Str) {k j : Nat} (h : k ≤ j) : (first bar k).length ≤ (first bar j).length := by
  obtain ⟨r, e⟩ := first_add bar k (j - k)
  rw [show k + (j - k) = j by omega] at e
  rw [e, List.length_append]; omega
/-- the first so many -/
def due (bar : List PySem.Str) (m : Nat) : List PySem.Str := (first bar 702).take m
theorem due_of {bar : List PySem.Str} {m k : Nat} (hk : k ≤ 702) (h : (first bar k).length = m) : first bar k = due bar m := by
  obtain ⟨r, e⟩ := first_add bar k (702 - k)
  rw [show k + (702 - k) = 702 by omega] at e
  unfold due
  rw [e, ← h, List.take_left]
theorem due_from {bar : List PySem.Str} {m k : Nat} (hk : k ≤ 702) (h : m ≤ (first bar k).length) : (first bar k).take m = due bar m := by
  obtain ⟨r, e⟩ := first_add bar k (702 - k)
  rw [show k + (702 - k) = 702 by omega] at e
  unfold due
  rw [e, List.take_append_of_le_length h]
/-- one sign -/
def sg (c : Nat) : PySem.Str := ⟨#[c]⟩
def longer (ls : List PySem.Str) : List PySem.Str := ls.flatMap fun l => (List.range 26).map fun i => (⟨l.cps ++ #[97 + i]⟩ : PySem.Str)
theorem longer_one : longer [⟨#[]⟩] = (List.range 26).map nmS := by decide +kernel
theorem longer_two : longer ((List.range 26).map nmS) = ((List.range 676).map fun i => nmS (26 + i)) := by decide +kernel
theorem first_26 (bar : List PySem.Str) : first bar 26 = ((List.range 26).map nmS).filter fun x => decide (x ∉ bar) := rfl
theorem first_702 (bar : List PySem.Str) : first bar 702 = first bar 26 ++ ((List.range 676).map fun i => nmS (26 + i)).filter fun x => decide (x ∉ bar) := by
  unfold first
  rw [← List.filter_append, show (702 : Nat) = 26 + 676 from rfl, List.range_add, List.map_append, List.map_map] <;> rfl
end K1
/-! What a name is: by the program's way and by another. -/
namespace K1
open PySem PySem.Spec PyProof.Rows L2

def low (c : Nat) : Bool := decide (97 ≤ c) && decide (c ≤ 122)
def nm (x : PySem.Str) : Bool := decide (1 ≤ x.length) && (decide (x.length ≤ 8) && x.cps.toList.all low)
theorem uni : ((List.range 128).all fun c => (Unicode.isAlpha c == ((decide (65 ≤ c) && decide (c ≤ 90)) || low c)) && ((Unicode.isLower c == low c) && ((Unicode.isUpper c || Unicode.isTitle c) == (decide (65 ≤ c) && decide (c ≤ 90))))) = true := by decide +kernel
theorem uni_at {c : Nat} (h : c < 128) : Unicode.isAlpha c = ((decide (65 ≤ c) && decide (c ≤ 90)) || low c) ∧ Unicode.isLower c = low c ∧ (Unicode.isUpper c || Unicode.isTitle c) = (decide (65 ≤ c) && decide (c ≤ 90)) := by
  have := List.all_eq_true.mp uni c (List.mem_range.mpr h)
  simp only [Bool.and_eq_true, beq_iff_eq] at this
  exact ⟨this.1, this.2.1, this.2.2⟩
theorem nm_prog {x : PySem.Str} (h1 : 1 ≤ x.length) (h2 : x.length ≤ 8) : nm x = (Txt.isascii x && (Txt.isalpha x && Txt.islower x)) := by
  have e1 : nm x = x.cps.toList.all low := by unfold nm; rw [decide_eq_true h1, decide_eq_true h2] <;> rfl
  have a0 : Txt.isascii x = x.cps.toList.all fun c => decide (c < 128) := by unfold Txt.isascii; rw [← Array.all_toList] <;> rfl
  have a1 : Txt.isalpha x = x.cps.toList.all Unicode.isAlpha := by unfold Txt.isalpha; rw [← Array.all_toList, decide_eq_true (show x.length > 0 from h1), Bool.true_and]
  have a2 : Txt.islower x = (x.cps.toList.any Unicode.isLower && !x.cps.toList.any fun c => Unicode.isUpper c || Unicode.isTitle c) := by unfold Txt.islower; rw [← Array.any_toList, ← Array.any_toList]
  have hl : x.cps.toList.length = x.length := by simp [Str.length]
  rw [e1, a0, a1, a2]
  have hne : x.cps.toList ≠ [] := fun e => by rw [e] at hl; simp at hl; omega
  generalize x.cps.toList = l at hne
  rw [Bool.eq_iff_iff]
  simp only [Bool.and_eq_true, List.all_eq_true, List.any_eq_true, Bool.not_eq_true', decide_eq_true_eq, Bool.or_eq_true]
  constructor
  · intro h
    have hb : ∀ c ∈ l, c < 128 := fun c hc => by have := h c hc; unfold low at this; simp at this; omega
    refine ⟨hb, fun c hc => by rw [(uni_at (hb c hc)).1, h c hc, Bool.or_true], ?_, ?_⟩
    · obtain ⟨c, r, rfl⟩ := List.exists_cons_of_ne_nil hne
      exact ⟨c, List.mem_cons_self, by rw [(uni_at (hb c List.mem_cons_self)).2.1, h c List.mem_cons_self]⟩
    · rw [List.any_eq_false]
      intro c hc
      rw [(uni_at (hb c hc)).2.2]
      have := h c hc; unfold low at this; simp at this ⊢; omega
  · rintro ⟨hb, ha, _, hu⟩ c hc
    have q1 := ha c hc
    rw [(uni_at (hb c hc)).1] at q1
    have q2 := (List.any_eq_false.mp hu) c hc
    rw [(uni_at (hb c hc)).2.2] at q2
    cases hl : low c with
    | true => rfl
    | false => rw [hl, Bool.or_false] at q1; exact absurd q1 q2
theorem alpha_list : alpha.cps.toList = (List.range 26).map (97 + ·) := by decide +kernel
theorem alpha_has (c : Nat) : alpha.cps.contains c = low c := by
  rw [Bool.eq_iff_iff, Array.contains_iff_mem, ← Array.mem_toList_iff, alpha_list, List.mem_map]
  unfold low
  simp only [List.mem_range, Bool.and_eq_true, decide_eq_true_eq]
  constructor
  · rintro ⟨a, h, rfl⟩; omega
  · rintro ⟨h1, h2⟩; exact ⟨c - 97, by omega, by omega⟩
theorem takeWhile_all {p : Nat → Bool} : ∀ {l : List Nat}, (∀ c ∈ l, p c = true) → l.takeWhile p = l
  | [], _ => rfl
  | a :: l, h => by rw [List.takeWhile_cons, if_pos (h a (by simp)), takeWhile_all fun c hc => h c (by simp [hc])]
theorem takeWhile_le (p : Nat → Bool) : ∀ l : List Nat, (l.takeWhile p).length ≤ l.length
  | [] => Nat.le_refl _
  | a :: l => by
    rw [List.takeWhile_cons]
    split
    · simp only [List.length_cons]; have := takeWhile_le p l; omega
    · simp
theorem takeWhile_lt {p : Nat → Bool} : ∀ {l : List Nat}, (∃ c ∈ l, p c = false) → (l.takeWhile p).length < l.length
  | [], h => by obtain ⟨c, hc, _⟩ := h; cases hc
  | a :: l, h => by
    rw [List.takeWhile_cons]
    split
    · rename_i ha
      have : ∃ c ∈ l, p c = false := by
        obtain ⟨c, hc, hp⟩ := h
        rcases List.mem_cons.mp hc with rfl | hc
        · rw [ha] at hp; cases hp
        · exact ⟨c, hc, hp⟩
      have := takeWhile_lt this
      simp only [List.length_cons]; omega
    · simp
theorem drop_takeWhile_head {p : Nat → Bool} : ∀ {l : List Nat}, (l.takeWhile p).length < l.length → ∃ c ∈ l.drop (l.takeWhile p).length, p c = false
  | [], h => by simp at h
  | a :: l, h => by
    cases ha : p a with
    | false => exact ⟨a, by rw [List.takeWhile_cons, if_neg (by rw [ha]; simp)]; simp, ha⟩
    | true =>
      rw [List.takeWhile_cons, if_pos ha] at h ⊢
      simp only [List.length_cons] at h
      obtain ⟨c, hc, hp⟩ := drop_takeWhile_head (p := p) (l := l) (by omega)
      exact ⟨c, by simpa using hc, hp⟩
theorem strip_nil {x : PySem.Str} (h1 : 1 ≤ x.length) : decide (Txt.stripChars x alpha = "") = x.cps.toList.all low := by
  have hg : alpha.cps.contains = low := funext alpha_has
  have es : (("" : PySem.Str)) = ⟨#[]⟩ := by decide +kernel
  have hl : x.cps.toList.length = x.length := by simp [Str.length]
  have hsub : ∀ lo hi, lo ≤ hi → hi ≤ x.length → (Builtin.Str.strSub x lo hi).length = hi - lo := fun lo hi h1 h2 => by
    show (x.cps.extract lo hi).size = hi - lo
    rw [Array.size_extract]
    have : x.cps.size = x.length := rfl
    omega
  have hz : ∀ y : PySem.Str, y = ("" : PySem.Str) ↔ y.length = 0 := fun y => by
    rw [es]
    constructor
    · rintro rfl; rfl
    · intro h
      obtain ⟨a⟩ := y
      have : a.size = 0 := h
      rw [Array.eq_empty_of_size_eq_zero this]
  rw [Bool.eq_iff_iff, decide_eq_true_eq, hz, List.all_eq_true]
  unfold Txt.stripChars Txt.stripBy
  rw [hg]
  constructor
  · intro h c hc
    cases hcl : low c with
    | true => rfl
    | false =>
      exfalso
      have t1 := takeWhile_lt (p := low) ⟨c, hc, hcl⟩
      split at h
      · omega
      · unfold stripped at h
        have elo : stripLo low true x = (x.cps.toList.takeWhile low).length := rfl
        have ehi : stripHi low true x (stripLo low true x) = x.length - ((x.cps.toList.drop (stripLo low true x)).reverse.takeWhile low).length := rfl
        obtain ⟨d, hd, hdl⟩ := drop_takeWhile_head t1
        have t2 := takeWhile_lt (p := low) (l := (x.cps.toList.drop (stripLo low true x)).reverse) ⟨d, by rw [elo]; exact List.mem_reverse.mpr hd, hdl⟩
        rw [List.length_reverse, List.length_drop] at t2
        rw [hsub _ _ (by omega) (by omega)] at h
        omega
  · intro h
    have t1 : x.cps.toList.takeWhile low = x.cps.toList := takeWhile_all h
    have elo : stripLo low true x = x.length := by show (x.cps.toList.takeWhile low).length = _; rw [t1, hl]
    have ehi : stripHi low true x x.length = x.length := by
      show x.length - ((x.cps.toList.drop x.length).reverse.takeWhile low).length = _
      rw [List.drop_eq_nil_of_le (by omega)] <;> rfl
    have hs : stripSame low true true x = false := by
      unfold stripSame
      rw [elo]
      have : (x.length == 0) = false := by simp; omega
      rw [this, Bool.false_and]
    rw [hs, if_neg (by simp)]
    unfold stripped
    rw [elo, ehi, hsub _ _ (Nat.le_refl _) (Nat.le_refl _)]
    omega
end K1
/-! Markings as plain lists: the words by kinds, the kept ones. -/
namespace M46
open PySem PySem.Spec PyProof.Rows

abbrev S := PySem.Str
/-- the word of a kind -/
def gw (ws : List (S × S)) (r : S) (k : S) : S := (ws.lookup k).getD r
theorem gw_nil {r k : S} : gw [] r k = r := rfl
theorem gw_cons {a b r k : S} {ws : List (S × S)} : gw ((a, b) :: ws) r k = if k = a then b else gw ws r k := by
  unfold gw
  rw [List.lookup_cons]
  by_cases h : k = a
  · subst h
    rw [if_pos rfl, beq_self_eq_true]
    rfl
  · have : (k == a) = false := by simpa using h
    rw [if_neg h, this]
theorem gw_not {r k : S} : ∀ {ws : List (S × S)}, k ∉ ws.map (·.1) → gw ws r k = r
  | [], _ => rfl
  | (a, b) :: ws, h => by
    rw [List.map_cons, List.mem_cons, not_or] at h
    rw [gw_cons, if_neg h.1, gw_not h.2]
theorem gw_any {r r' k : S} : ∀ {ws : List (S × S)}, k ∈ ws.map (·.1) → gw ws r k = gw ws r' k
  | [], h => by cases h
  | (a, b) :: ws, h => by
    rw [gw_cons, gw_cons]
    by_cases e : k = a
    · rw [if_pos e, if_pos e]
    · rw [if_neg e, if_neg e]
      rw [List.map_cons, List.mem_cons] at h
      exact gw_any (h.resolve_left e)
theorem gw_mem {r k : S} : ∀ {ws : List (S × S)}, k ∈ ws.map (·.1) → gw ws r k ∈ ws.map (·.2)
  | [], h => by cases h
  | (a, b) :: ws, h => by
    rw [gw_cons]
    by_cases e : k = a
    · rw [if_pos e]; simp
    · rw [if_neg e, List.map_cons]
      rw [List.map_cons, List.mem_cons] at h
      exact List.mem_cons_of_mem _ (gw_mem (h.resolve_left e))
/-- the kept ones among the kinds ks: those whose word isn't r -/
def keep (ks : List S) (f : S → S) (r : S) : List S := ks.filter fun k => decide (f k ≠ r)
def kept (ks : List S) (f : S → S) (r : S) : List (S × S) := (keep ks f r).map fun k => (k, f k)
theorem kept_keys {ks : List S} {f : S → S} {r : S} : (kept ks f r).map (·.1) = keep ks f r := by
  unfold kept
  rw [List.map_map]
  show (keep ks f r).map id = _
  rw [List.map_id]
theorem gw_fun {f : S → S} {r k : S} : ∀ {ks : List S}, gw (ks.map fun k => (k, f k)) r k = if k ∈ ks then f k else r
  | [] => by simp [gw_nil]
  | a :: ks => by
    rw [List.map_cons, gw_cons, gw_fun (ks := ks)]
    by_cases e : k = a
    · subst e; simp
    · rw [if_neg e]
      simp [e]
theorem gw_kept {ks : List S} {f : S → S} {r k : S} (h : k ∉ ks → f k = r) : gw (kept ks f r) r k = f k := by
  unfold kept
  rw [gw_fun]
  unfold keep
  by_cases hk : k ∈ ks
  · by_cases e : f k = r
    · rw [if_neg (by simp [e]), e]
    · rw [if_pos (by simp [hk, e])]
  · rw [if_neg (by simp [hk]), h hk]
/-! ### the order of texts -/
theorem le_iff {a b : S} : ltCps b.cps.toList a.cps.toList = false ↔ a.cps.toList ≤ b.cps.toList := by
  rw [ltCps_eq, decide_eq_false_iff_not]
  exact Iff.rfl
theorem rising_le : ∀ {p : S} {l : List S}, risingS p l = true → (p :: l).Pairwise fun a b => a.cps.toList ≤ b.cps.toList
  | p, [], _ => by simp
  | p, x :: r, h => by
    unfold risingS at h
    rw [Bool.and_eq_true, Bool.not_eq_true'] at h
    have hp := le_iff.mp h.1
    have ih := rising_le h.2
    refine List.Pairwise.cons (fun b hb => ?_) ih
    rcases List.mem_cons.mp hb with e | hb
    · subst e; exact hp
    · exact List.le_trans hp (List.rel_of_pairwise_cons ih hb)
theorem sorted_le {l : List S} (h : sortedS l = true) : l.Pairwise fun a b => a.cps.toList ≤ b.cps.toList := by
  cases l with
  | nil => exact .nil
  | cons x r => exact rising_le h
theorem str_ext {a b : S} (h : a.cps.toList = b.cps.toList) : a = b := by
  obtain ⟨x⟩ := a
  obtain ⟨y⟩ := b
  exact congrArg _ (Array.toList_inj.mp h)
theorem sorted_eq {l m : List S} (hl : l.Pairwise fun a b => a.cps.toList ≤ b.cps.toList) (hm : m.Pairwise fun a b => a.cps.toList ≤ b.cps.toList) (hp : l.Perm m) : l = m :=
  List.Perm.eq_of_pairwise (le := fun a b => a.cps.toList ≤ b.cps.toList) (fun a b _ _ h1 h2 => str_ext (List.le_antisymm h1 h2)) hl hm hp
/-- the kept ones are told by the function -/
theorem kept_ext {ks ms : List S} {f g : S → S} {r : S} (hk : ks.Pairwise fun a b => a.cps.toList ≤ b.cps.toList) (hm : ms.Pairwise fun a b => a.cps.toList ≤ b.cps.toList) (nk : ks.Nodup) (nm : ms.Nodup) (fg : ∀ k, f k = g k) (h1 : ∀ k, k ∉ ks → f k = r) (h2 : ∀ k, k ∉ ms → g k = r) : kept ks f r = kept ms g r := by
  have e : f = g := funext fg
  subst e
  unfold kept
  congr 1
  unfold keep
  refine sorted_eq (hk.filter _) (hm.filter _) ?_
  rw [List.perm_ext_iff_of_nodup (nk.filter _) (nm.filter _)]
  intro a
  simp only [List.mem_filter, decide_eq_true_eq]
  constructor
  · rintro ⟨_, h⟩
    exact ⟨Classical.byContradiction fun z => h (h2 a z), h⟩
  · rintro ⟨_, h⟩
    exact ⟨Classical.byContradiction fun z => h (h1 a z), h⟩
end M46
/-! Words by kinds as the entries of a dict. -/
namespace M46
open PySem PySem.Spec PyProof.Rows L2

def wd (ws : List (S × S)) : List (Key × V) := ws.map fun x => ((Sum.inr x.1 : Key), V.str x.2)
def putS (ws : List (S × S)) (k v : S) : List (S × S) := if k ∈ ws.map (·.1) then ws.map (fun x => if x.1 = k then (x.1, v) else x) else ws ++ [(k, v)]
theorem wd_len {ws : List (S × S)} : (wd ws).length = ws.length := by unfold wd; rw [List.length_map]
theorem val_wd (k : S) : ∀ ws : List (S × S), valV (wd ws) (Sum.inr k : Key) = (ws.lookup k).map V.str
  | [] => rfl
  | (a, b) :: ws => by
    rw [List.lookup_cons]
    by_cases h : k = a
    · subst h
      rw [beq_self_eq_true]
      exact valV_pos rfl
    · have e : (k == a) = false := by simpa using h
      rw [e]
      have := val_wd k ws
      refine (valV_neg (fun z => ?_)).trans this
      injection z with z
      exact h z.symm
theorem val_gw {r k : S} {ws : List (S × S)} : (valV (wd ws) (Sum.inr k : Key)).getD (.str r) = .str (gw ws r k) := by
  rw [val_wd]
  unfold gw
  cases ws.lookup k <;> rfl
theorem look_mem {r k : S} : ∀ {ws : List (S × S)}, k ∈ ws.map (·.1) → ws.lookup k = some (gw ws r k)
  | [], h => by cases h
  | (a, b) :: ws, h => by
    rw [List.lookup_cons, gw_cons]
    by_cases e : k = a
    · subst e
      rw [beq_self_eq_true, if_pos rfl]
    · have e' : (k == a) = false := by simpa using e
      rw [e', if_neg e]
      rw [List.map_cons, List.mem_cons] at h
      exact look_mem (h.resolve_left e)
theorem val_mem {r k : S} {ws : List (S × S)} (h : k ∈ ws.map (·.1)) : valV (wd ws) (Sum.inr k : Key) = some (.str (gw ws r k)) := by
  rw [val_wd, look_mem (r := r) h]
  rfl
theorem look_not {k : S} : ∀ {ws : List (S × S)}, k ∉ ws.map (·.1) → ws.lookup k = none
  | [], _ => rfl
  | (a, b) :: ws, h => by
    rw [List.map_cons, List.mem_cons, not_or] at h
    have e' : (k == a) = false := by simpa using h.1
    rw [List.lookup_cons, e']
    exact look_not h.2
theorem val_some {k : S} {ws : List (S × S)} : (valV (wd ws) (Sum.inr k : Key)).isSome = decide (k ∈ ws.map (·.1)) := by
  by_cases h : k ∈ ws.map (·.1)
  · rw [val_mem (r := k) h, decide_eq_true h]
    rfl
  · rw [val_wd, look_not h, decide_eq_false h]
    rfl
theorem any_wd (k : S) : ∀ ws : List (S × S), ((wd ws).any fun kv => decide (kv.1 = (Sum.inr k : Key))) = decide (k ∈ ws.map (·.1)) := fun ws => by
  rw [valV_any, val_some]
theorem put_wd {ws : List (S × S)} {k v : S} : putK (wd ws) (Sum.inr k : Key) (.str v) = wd (putS ws k v) := by
  unfold putK putS
  rw [any_wd]
  by_cases h : k ∈ ws.map (·.1)
  · rw [decide_eq_true h, if_pos rfl, if_pos h]
    unfold wd
    rw [List.map_map, List.map_map]
    refine List.map_congr_left fun x _ => ?_
    show (if (Sum.inr x.1 : Key) = Sum.inr k then ((Sum.inr x.1 : Key), V.str v) else _) = _
    by_cases e : x.1 = k
    · rw [if_pos (by rw [e])]
      show _ = ((Sum.inr (if x.1 = k then (x.1, v) else x).1 : Key), V.str (if x.1 = k then (x.1, v) else x).2)
      rw [if_pos e]
    · rw [if_neg (fun z => e (Sum.inr.inj z))]
      show _ = ((Sum.inr (if x.1 = k then (x.1, v) else x).1 : Key), V.str (if x.1 = k then (x.1, v) else x).2)
      rw [if_neg e]
  · rw [decide_eq_false h, if_neg Bool.false_ne_true, if_neg h]
    unfold wd
    rw [List.map_append]
    rfl
theorem put_new {ws : List (S × S)} {k v : S} (h : k ∉ ws.map (·.1)) : putS ws k v = ws ++ [(k, v)] := by
  unfold putS
  rw [if_neg h]
theorem gw_app {r k : S} {b : List (S × S)} : ∀ {a : List (S × S)}, gw (a ++ b) r k = if k ∈ a.map (·.1) then gw a r k else gw b r k
  | [] => by simp
  | (x, y) :: a => by
    rw [List.cons_append, gw_cons, gw_cons, gw_app (a := a), List.map_cons]
    by_cases e : k = x
    · simp [e]
    · simp only [List.mem_cons, e, if_false, false_or]
theorem gw_repl {r k j v : S} : ∀ {ws : List (S × S)}, gw (ws.map fun x => if x.1 = k then (x.1, v) else x) r j = if j = k ∧ k ∈ ws.map (·.1) then v else gw ws r j
  | [] => by simp
  | (a, b) :: ws => by
    rw [List.map_cons]
    have ih := gw_repl (r := r) (k := k) (j := j) (v := v) (ws := ws)
    by_cases e : a = k
    · subst e
      rw [if_pos rfl, gw_cons, gw_cons, ih]
      by_cases f : j = a
      · subst f; simp
      · rw [if_neg f, if_neg f, if_neg (fun z => f z.1), if_neg (fun z => f z.1)]
    · rw [if_neg e, gw_cons, gw_cons, ih]
      by_cases f : j = a
      · rw [if_pos f, if_pos f, if_neg (fun z => e (f.symm.trans z.1))]
      · rw [if_neg f, if_neg f]
        by_cases g : j = k
        · by_cases m : k ∈ ws.map (·.1)
          · rw [if_pos ⟨g, m⟩, if_pos ⟨g, by rw [List.map_cons]; exact List.mem_cons_of_mem _ m⟩]
          · rw [if_neg (fun z => m z.2), if_neg (fun z => m ?_)]
            have z2 := z.2
            rw [List.map_cons, List.mem_cons] at z2
            exact z2.resolve_left fun q => e q.symm
        · rw [if_neg (fun z => g z.1), if_neg (fun z => g z.1)]
theorem gw_put {r k j v : S} {ws : List (S × S)} : gw (putS ws k v) r j = if j = k then v else gw ws r j := by
  unfold putS
  by_cases h : k ∈ ws.map (·.1)
  · rw [if_pos h, gw_repl]
    by_cases e : j = k
    · rw [if_pos ⟨e, h⟩, if_pos e]
    · rw [if_neg (fun z => e z.1), if_neg e]
  · rw [if_neg h, gw_app, gw_cons, gw_nil]
    by_cases e : j = k
    · subst e
      rw [if_neg h, if_pos rfl, if_pos rfl]
    · rw [if_neg e, if_neg e]
      by_cases m : j ∈ ws.map (·.1)
      · rw [if_pos m]
      · rw [if_neg m, gw_not m]
theorem keys_put {k v : S} {ws : List (S × S)} : (putS ws k v).map (·.1) = if k ∈ ws.map (·.1) then ws.map (·.1) else ws.map (·.1) ++ [k] := by
  unfold putS
  by_cases h : k ∈ ws.map (·.1)
  · rw [if_pos h, if_pos h, List.map_map]
    refine List.map_congr_left fun x _ => ?_
    show (if x.1 = k then (x.1, v) else x).1 = x.1
    by_cases e : x.1 = k
    · rw [if_pos e]
    · rw [if_neg e]
  · rw [if_neg h, if_neg h, List.map_append]
    rfl
theorem mem_put {k v j : S} {ws : List (S × S)} : j ∈ (putS ws k v).map (·.1) ↔ j ∈ ws.map (·.1) ∨ j = k := by
  rw [keys_put]
  by_cases h : k ∈ ws.map (·.1)
  · rw [if_pos h]
    exact ⟨.inl, fun z => z.elim id fun e => by rw [e]; exact h⟩
  · rw [if_neg h, List.mem_append, List.mem_singleton]
theorem nodup_put {k v : S} {ws : List (S × S)} (h : (ws.map (·.1)).Nodup) : ((putS ws k v).map (·.1)).Nodup := by
  rw [keys_put]
  by_cases m : k ∈ ws.map (·.1)
  · rw [if_pos m]; exact h
  · rw [if_neg m, List.nodup_append]
    refine ⟨h, by simp, fun a ha b hb => ?_⟩
    rw [List.mem_singleton.mp hb]
    intro e
    exact m (by rw [← e]; exact ha)
theorem len_put {k v : S} {ws : List (S × S)} : (putS ws k v).length ≤ ws.length + 1 := by
  unfold putS
  split
  · rw [List.length_map]; omega
  · rw [List.length_append]; simp
theorem vals_put {k v : S} {ws : List (S × S)} {p : S → Prop} (h : ∀ x ∈ ws.map (·.2), p x) (hv : p v) : ∀ x ∈ (putS ws k v).map (·.2), p x := by
  unfold putS
  intro x hx
  split at hx
  · rw [List.map_map] at hx
    obtain ⟨y, hy, e⟩ := List.mem_map.mp hx
    have e' : (if y.1 = k then (y.1, v) else y).2 = x := e
    split at e'
    · rw [← e']; exact hv
    · rw [← e']; exact h _ (List.mem_map.mpr ⟨y, hy, rfl⟩)
  · rw [List.map_append, List.mem_append] at hx
    rcases hx with hx | hx
    · exact h x hx
    · have : x = v := by simpa using hx
      rw [this]; exact hv
/-- the entries put one by one into nothing -/
theorem merge_nodup : ∀ {ws pre : List (S × S)}, ((pre ++ ws).map (·.1)).Nodup → mergeK (wd pre) (wd ws) = wd (pre ++ ws)
  | [], pre, _ => by rw [List.append_nil]; rfl
  | (a, b) :: ws, pre, h => by
    have hn : a ∉ pre.map (·.1) := by
      rw [List.map_append, List.nodup_append] at h
      intro m
      exact h.2.2 a m a (by simp) rfl
    show mergeK (putK (wd pre) (Sum.inr a : Key) (.str b)) (wd ws) = _
    rw [put_wd, put_new hn, merge_nodup (by rw [List.append_assoc]; exact h), List.append_assoc]
    rfl
theorem merge_nil {ws : List (S × S)} (h : (ws.map (·.1)).Nodup) : mergeK [] (wd ws) = wd ws := merge_nodup (pre := []) h
theorem gw_of_mem {r k v : S} : ∀ {ws : List (S × S)}, (ws.map (·.1)).Nodup → (k, v) ∈ ws → gw ws r k = v
  | [], _, h => by cases h
  | (a, b) :: ws, n, h => by
    rw [gw_cons]
    rw [List.map_cons, List.nodup_cons] at n
    rcases List.mem_cons.mp h with e | h
    · injection e with e1 e2
      rw [if_pos e1, e2]
    · have hk : k ∈ ws.map (·.1) := List.mem_map.mpr ⟨(k, v), h, rfl⟩
      rw [if_neg (fun e => n.1 (by rw [← e]; exact hk))]
      exact gw_of_mem n.2 h
theorem mem_of_gw {r k : S} : ∀ {ws : List (S × S)}, k ∈ ws.map (·.1) → (k, gw ws r k) ∈ ws
  | [], h => by cases h
  | (a, b) :: ws, h => by
    rw [gw_cons]
    by_cases e : k = a
    · subst e
      rw [if_pos rfl]
      exact List.mem_cons_self
    · rw [if_neg e]
      rw [List.map_cons, List.mem_cons] at h
      exact List.mem_cons_of_mem _ (mem_of_gw (h.resolve_left e))
theorem gw_perm {r k : S} {ws vs : List (S × S)} (n : (ws.map (·.1)).Nodup) (p : vs.Perm ws) : gw vs r k = gw ws r k := by
  have n2 : (vs.map (·.1)).Nodup := (p.map (·.1)).nodup_iff.mpr n
  by_cases h : k ∈ ws.map (·.1)
  · have := mem_of_gw (r := r) h
    exact gw_of_mem n2 (p.mem_iff.mpr this)
  · have h2 : k ∉ vs.map (·.1) := fun z => h ((p.map (·.1)).mem_iff.mp z)
    rw [gw_not h, gw_not h2]
end M46
/-! An attribute as a target; a dict behind a star; a tuple of a dict's keys; dicts behind two stars. -/
namespace R0
open PySem PySem.Spec PyProof.Rows L2

section
variable {X : Cx}
/-- o.f as a target -/
def gAtt (K : PySem.W.Frag) (to : TE) (f : PySem.Str) : TG := fun v σ H Q => to σ H fun x H1 => ∃ a C dx fs, x = .ref a ∧ H1 a = some (.ins C dx fs) ∧ Cls K C ∧ NoAttr K C f ∧ fs.length < 1000 ∧ Q σ (upd H1 a (.ins C dx (putF f v fs)))
theorem pg_att {o : Expr} {f : PySem.Str} {pos : Pos} {to : TE} (ho : PE X o to)
    (ha : ∀ v, assign (.Attribute o f pos) X.env v = (holding [v] (eval o X.env) >>= fun ov => standAt pos.atName >>= fun _ => holding [v, ov] (setAttr ov f v) >>= fun _ => release [v, ov] []) := by intro _; rfl) :
    PG X (.Attribute o f pos) (gAtt X.K to f) := by
  refine ⟨fun pins s σ H v u Q I r h => ?_⟩
  rw [ha]
  refine wpAny_bind (wpAny_holding (thn (ho.run pins s σ H _ I h) fun ov s1 ⟨x, H1, I1, r1, a, C, dx, fs, ex, ea, c, n, l, q⟩ => ?_))
  subst ex
  obtain rfl : ov = Value.ref a := r1
  refine wpAny_bind (wpAny_standAt (wpAny_bind (wpAny_holding (setattr_ok I1 ea c n l r fun s2 I2 => ?_))))
  exact wpAny_release ⟨σ, _, I2, q⟩

/-- *e, e's value a dict of ints and texts: its keys -/
def tStarD (te : TE) (t : TA) : TA := fun σ H Q => te σ H fun x H1 => ∃ p kvs, x = V.ref p ∧ Rd H1 p (.dK kvs) ∧ t σ H1 fun ys H2 => Q (kvs.map (fun kv => kV kv.1) ++ ys) H2
theorem keys_vals {P : Program} {w : World} {kvs : List (Key × V)} {vs : List (Key × Value)} (rk : KV kvs vs) {acc : Array Value} (h : ItemsOf (fun i v => ∃ k x, vs[i]? = some (k, x) ∧ (mixKind P w).is k v = true) acc vs.length) : Vals (kvs.map fun kv => kV kv.1) acc.toList := by
  have hl : kvs.length = vs.length := Paired.length rk
  have el : acc.toList.length = acc.size := by simp
  refine vals_of_at (by rw [List.length_map, el, h.1, hl]) fun j x u h1 h2 => ?_
  obtain ⟨k, y, hky, hi⟩ := h.2 j u (by rw [← Array.getElem?_toList]; exact h2)
  have e1 : (kvs.map (·.1))[j]? = some k := by rw [KV.keys rk, List.getElem?_map, hky] <;> rfl
  have e3 : (kvs.map fun kv => kV kv.1) = (kvs.map (·.1)).map kV := by rw [List.map_map] <;> rfl
  rw [e3, List.getElem?_map, e1] at h1
  cases h1
  exact keyIs_rel hi
theorem star_dK {pins : List (Addr × Obj)} {σ : L2.St} {H : Hp} {s : Shared} {a : Addr} {kvs : List (Key × V)} {E : Value → Shared → Prop} {Q : List Value → Shared → Prop} (hc : X.calm = true) (I : Inv X pins σ H s) (h : Rd H a (.dK kvs))
    (hQ : ∀ us s', Inv X pins σ H s' → Vals (kvs.map fun kv => kV kv.1) us → Q us s') : PySem.W.StarOf (model X.prog X.w) X.A E (.ref a) Q s := by
  obtain ⟨z, lo, vs, rk, dd⟩ := dk_rd I.hok h
  obtain ⟨ep, hat⟩ := dd.dictAt
  have hl : kvs.length = vs.length := Paired.length rk
  have c : wpAny (model X.prog X.w) X.A (collect (.ref a)) Q E s := by
    refine PySem.W.kdu_collect (PySem.W.kdl_dict (knd := mixKind X.prog X.w) (kvs := vs) (ep := ep) lo) (I.ok.hd hc) hat (by rw [← hl]; exact z) fun h' tk acc hk hacc => ?_
    exact hQ _ _ (I.kept (t' := tk) hk) (keys_vals rk hacc)
  unfold PySem.W.StarOf notIterableAtAll
  exact wpAny_bind (wpAny_specialOf dd.typeIs PySem.F.slot_dict_iter.lookup (wpAny_pure ⟨rfl, c⟩))
theorem pa_starD {e : Expr} {es : List Expr} {te : TE} {t : TA} {p : Pos} (hc : X.calm = true) (he : PE X e te) (hr : PA X es t) (hs : starEach (.Starred e p :: es) X.env = (true, eval e X.env) :: starEach es X.env := by rfl) : PA X (.Starred e p :: es) (tStarD te t) := by
  refine ⟨fun pos pins s σ H Q I h => ?_⟩
  refine PySem.W.items_star (thn (he.run pins s σ H _ I h) fun v s1 ⟨y, H1, I1, ry, a, kvs, ey, hx, q⟩ => ?_) hs
  subst ey
  obtain rfl : v = Value.ref a := ry
  refine star_dK hc I1 hx fun us s2 I2 rv => ?_
  exact thn (hr.run pos pins s2 σ H1 _ I2 q) fun ws s3 ⟨vs, H3, I3, r3, q3⟩ => ⟨_ ++ vs, H3, I3, rv.append r3, q3⟩
end
end R0
/-! tuple(d) of a dict; one dict put into another. -/
namespace R0
open PySem PySem.Spec PyProof.Rows L2

section
variable {prog : Program} {w : World} {A : Around} {E : Value → Shared → Prop} {s : Shared} {T : String} {r d : Addr} {n : Nat} {P : Nat → Value → Prop} {OK : Heap → Prop}
theorem tuple_of_src {Q : Value → Shared → Prop} (K : PySem.W.KdlSrc prog w T r d n P OK) (hh : A.handled = none) (hok : OK s.heap) (hn : n ≤ sizeLine)
    (h : ∀ (h' : Heap) (tk : Nat) (acc : Array Value), (∀ b o, s.heap.get? b = some o → h'.get? b = some o) → ItemsOf P acc n → Q (.ref h'.objs.size) { s with heap := h'.push { cls := .type "tuple", data := .seq acc }, toks := tk }) :
    wpAny (model prog w) A (call (.type "tuple") [.ref r]) Q E s := by
  have hTI : s.TypeIs (.ref r) T := K.type s hok
  have hne : T ≠ "tuple" := fun e => by
    have z := K.notTuple
    rw [e] at z
    simp at z
  refine callType_codes (Q₁ := fun obj s₁ => s₁.TypeIs obj "tuple" ∧ Q obj s₁) F.called_tuple (F.typeCall_tuple_1 _) F.entry_object_init ?_ fun obj s₁ h₁ => ⟨h₁.1, F.args_object_init_2 obj _, object_init_meets F.called_tuple.init.lookup F.called_tuple.made (by decide) prog w A.in1 _ s₁ ⟨h₁.1, rfl, h₁.2⟩⟩
  refine codeAny_of_tree (wpAny_bind (wpAny_of_eq (F.newCall_tuple_1 _) (wpAny_pure ⟨plainId_quiet F.plain_tuple_new _, codeAny_builtin F.entry_tuple_new ?_⟩)))
  rw [Around.under_plainId F.plain_tuple_new _]
  have h1 := sub_tuple_self
  have h2 := init_tuple_lookup
  have h3 := madeHere_tuple
  have hh1 : A.in1.in1.handled = none := hh
  wp_walk using wpAny_typeOf hTI, PySem.W.kdu_collect K hh1 hok hn
  intro h' tk acc hk hacc
  refine wpAny_bind (wpAny_pure ?_)
  unfold Builtin.Tuple.tupleExact
  refine wpAny_bind (wpAny_newObj_type (wpAny_pure ?_) (by rw [Array.toArray_toList]; exact Nat.le_trans (Nat.le_of_eq hacc.1) hn))
  have e : acc.toList.toArray = acc := Array.toArray_toList
  rw [e]
  exact ⟨⟨_, Heap.get?_push_size _ rfl, rfl⟩, h h' tk acc hk hacc⟩
end
/-- tuple(d): a new tuple of the keys -/
theorem call_tuple_dK {X : Cx} (hc : X.calm = true) : CallR X (.type "tuple") (fun xs H Q => ∃ p kvs, xs = [V.ref p] ∧ Rd H p (.dK kvs) ∧ ∀ q, H q = none → Q (.ref q) (upd H q (.tup (kvs.map fun kv => kV kv.1)))) := by
  intro pins s σ H xs us Q I r h
  obtain ⟨p, kvs, rfl, hk, q⟩ := h
  obtain ⟨u, rfl, rx⟩ := r.one
  obtain rfl : u = Value.ref p := rx
  obtain ⟨z, lo, vs, rk, dd⟩ := dk_rd I.hok hk
  obtain ⟨ep, hat⟩ := dd.dictAt
  have hl : kvs.length = vs.length := Paired.length rk
  refine tuple_of_src (PySem.W.kdl_dict (knd := mixKind X.prog X.w) (kvs := vs) (ep := ep) lo) (I.ok.hd hc) hat (by rw [← hl]; exact z) fun h' tk acc hkeep hacc => ?_
  have I1 : Inv X pins σ H { s with heap := h', toks := tk } := I.kept hkeep
  have I2 := I1.laid (a := h'.objs.size) (o := .tup (kvs.map fun kv => kV kv.1)) (h' := h'.push { cls := .type "tuple", data := .seq acc }) (t' := tk) (fun _ _ q => Heap.get?_push_of_some _ q) (Nat.le_refl _)
    ⟨by rw [List.length_map]; exact z, acc.toList, keys_vals rk hacc, _, Heap.get?_push_size _ rfl, rfl, 0, by rw [Array.toArray_toList]⟩
  exact ⟨.ref h'.objs.size, _, I2, rfl, q _ (I1.hok.fresh (Nat.le_refl _))⟩

section
variable {prog : Program} {w : World} {κ : Type} [DecidableEq κ] {knd : KeyKind prog w κ} {A : Around} {E : Value → Shared → Prop} {s : Shared} {d a : Addr}
/-- a key and its value laid into a dict -/
theorem put_pairs {kvs : List (κ × Value)} {k : κ} {key v : Value} {Q : Unit → Shared → Prop} (hkey : knd.is k key = true) (hm : s.heap.DictOf knd d kvs) (hz : kvs.length ≤ sizeLine)
    (hQ : ∀ h', h'.DictOf knd d (stored kvs k v) → Heap.SameBut d s.heap h' → Q () { s with heap := h' }) : wpAny (model prog w) A (dictPut d (knd.hash k) key v) Q E s := by
  obtain ⟨o, es, ep, ho, hc, hd, hk, hp, hn⟩ := hm
  have hes : es.size ≤ sizeLine := by
    have e1 := hp.length
    rw [Array.length_toList] at e1
    omega
  have hix : (es.findIdx? fun e => knd.is k e.key) = kvs.findIdx? fun kv => decide (kv.1 = k) := by
    have := hp.findIdx k
    rw [← this]
    obtain ⟨l⟩ := es
    simp
  unfold dictPut
  refine wpAny_bind (wpAny_dictFind_of hkey ho hd hk ?_)
  cases hi : es.findIdx? fun e => knd.is k e.key with
  | some i =>
    have hst : stored kvs k v = kvs.map fun kv => if kv.1 = k then (kv.1, v) else kv := by rw [stored, if_pos (any_of_findIdx_some (hix ▸ hi))]
    refine wpAny_updateDict ho hd (hQ _ ⟨_, _, ep, Heap.get?_update_self _ ho (Obj.isFreed_of_dict (Obj.data_mapDict hd _)), hc.mapDict _, Obj.data_mapDict hd _, hk.modify _ _, ?_, ?_⟩ (Heap.SameBut.update ..))
    · rw [hst]
      have hl : (es.toList.findIdx? fun e => knd.is k e.key) = some i := by rw [← hi]; obtain ⟨l⟩ := es; simp
      have := hp.modify hn hl v
      obtain ⟨l⟩ := es
      simpa using this
    · rw [hst, keys_map_store]
      exact hn
  | none =>
    have hno : k ∉ kvs.map (·.1) := not_mem_of_findIdx_none (hix ▸ hi)
    have hst : stored kvs k v = kvs ++ [(k, v)] := by
      rw [stored, if_neg]
      rw [List.any_eq_true]
      rintro ⟨kv, h1, h2⟩
      exact hno (List.mem_map.mpr ⟨kv, h1, of_decide_eq_true h2⟩)
    refine wpAny_updateDictKeys (hz := hes) ho hd (hQ _ ⟨_, _, ep + 1, Heap.get?_update_self _ ho (Obj.isFreed_of_dict (Obj.data_mapDictKeys hd _)), hc.mapDictKeys _, Obj.data_mapDictKeys hd _, hk.push hkey _, ?_, ?_⟩ (Heap.SameBut.update ..))
    · rw [hst]
      have := hp.append hkey (knd.hash k) v
      obtain ⟨l⟩ := es
      simpa using this
    · rw [hst, List.map_append, List.nodup_append]
      refine ⟨hn, by simp, fun x hx y hy e => ?_⟩
      rw [show y = k by simpa using hy] at e
      exact hno (e ▸ hx)
/-- a whole dict of texts and numbers laid into another -/
theorem merge_pairs {kvs more : List (κ × Value)} {Q : Unit → Shared → Prop} (hne : d ≠ a) (hS : (a == sysModules) = false) (hd : s.heap.DictOf knd d kvs) (ha : s.heap.DictOf knd a more) (hz : kvs.length + more.length ≤ sizeLine)
    (hnr : ∀ k v, knd.is k v = true → ∀ b, v ≠ .ref b)
    (hQ : ∀ h', h'.DictOf knd d (merged kvs more) → Heap.SameBut d s.heap h' → Q () { s with heap := h' }) : wpAny (model prog w) A (mergeMapping d (.ref a) false) Q E s := by
  obtain ⟨oa, es, ep, hoa, hca, hda, hka, hpa, hna⟩ := id ha
  obtain ⟨od, es0, ep0, hod, hcd, hdd, _⟩ := id hd
  have hlen : more.length = es.size := by rw [← hpa.length, Array.length_toList]
  unfold mergeMapping
  have hT : s.TypeIs (.ref a) "dict" := ⟨oa, hoa, hca.1⟩
  refine wpAny_bind (wpAny_isInstance (b := true) hT (by rw [isSubtype_type]; kernel_rfl) ?_)
  rw [if_pos rfl]
  refine wpAny_bind (wpAny_specialOf hT PySem.F.slot_dict_iter.lookup ?_)
  refine wpAny_bind (wpAny_pure ?_)
  show wpAny _ _ (if (a == sysModules) = true then _ else _) _ _ _
  rw [if_neg (by rw [hS]; exact Bool.false_ne_true)]
  refine wpAny_bind (wpAny_dictEntries hod hdd ?_)
  show wpAny _ _ (if es0.isEmpty = true then _ else _) _ _ _
  refine wpAny_ite_split (fun _ => ?pre) (fun _ => ?main)
  case' pre =>
    refine wpAny_bind (wpAny_dictEntries hoa hda ?_)
    refine wpAny_bind ?_
    rw [← Array.forIn_toList]
    refine wpAny_forIn_list _ (fun rest _ s' => s' = s ∧ ∀ e ∈ rest, e ∈ es.toList) _ (fun e rest b s' hI => ?turn) (fun b s' hI => ?fin) _ _ ⟨rfl, fun e h => h⟩
    case turn =>
      obtain ⟨rfl, hm⟩ := hI
      obtain ⟨k, hk, _⟩ := hka e (Array.mem_toList_iff.mp (hm e List.mem_cons_self))
      have nr := hnr k e.key hk
      split
      · exact absurd (by assumption) (nr _)
      · exact wpAny_pure ⟨rfl, fun x hx => hm x (List.mem_cons_of_mem _ hx)⟩
    case' fin =>
      rw [hI.1]
  all_goals
    refine wpAny_bind (wpAny_dictEntries hoa hda ?_)
    refine wpAny_bind (wpAny_dictEpoch hoa hda ?_)
    refine wpAny_bind ?_
    refine wpAny_forIn_list _ (fun rest _ s' => ∃ h' i, s' = { s with heap := h' } ∧ rest = List.range' i (es.size - i) ∧ i ≤ es.size ∧ h'.DictOf knd d (merged kvs (more.take i)) ∧ h'.get? a = some oa ∧ Heap.SameBut d s.heap h') _ (fun x rest b s' hI => ?_) (fun b s' hI => ?_) _ _ ?_
    · obtain ⟨h', i, rfl, hr, hi, hd', hoa', hs'⟩ := hI
      have hlt : i < es.size := Nat.lt_of_not_le fun h => by
        rw [Nat.sub_eq_zero_of_le h] at hr
        cases hr
      rw [show es.size - i = (es.size - (i + 1)) + 1 by omega, List.range'_succ] at hr
      obtain ⟨rfl, hrest⟩ := List.cons.inj hr
      refine wpAny_bind (wpAny_dictEntries hoa' hda ?_)
      rw [Array.getElem?_eq_getElem hlt]
      have hm : x < more.length := by rw [hlen]; exact hlt
      obtain ⟨hkey, hval⟩ := hpa.get? (e := es[x]) (by simp [hlt]) (List.getElem?_eq_getElem hm)
      obtain ⟨k', hk', hh'⟩ := hka es[x] (Array.getElem_mem hlt)
      obtain rfl : k' = more[x].1 := knd.inj _ _ _ hk' hkey
      have hz' : (merged kvs (more.take x)).length ≤ sizeLine := by
        have := merged_length_le kvs (more.take x)
        rw [List.length_take] at this
        omega
      refine wpAny_bind (wpAny_holding ?_)
      show wpAny _ _ (dictPut d es[x].hash es[x].key es[x].val) _ _ _
      rw [hh', hval]
      refine put_pairs (s := { s with heap := h' }) hkey hd' hz' fun h2 hd2 hs2 => ?_
      have hoa2 : h2.get? a = some oa := (hs2.2 a (Ne.symm hne)).trans hoa'
      refine wpAny_bind (wpAny_dictEpoch hoa2 hda ?_)
      rw [if_neg (by simp)]
      refine wpAny_pure ⟨h2, x + 1, rfl, hrest, hlt, ?_, hoa2, hs'.trans hs2⟩
      rw [merged_take_succ kvs more x more[x] (List.getElem?_eq_getElem hm)]
      exact hd2
    · obtain ⟨h', i, rfl, hr, hi, hd', hoa', hs'⟩ := hI
      have hle : es.size ≤ i := Nat.le_of_not_lt fun h => by
        rw [show es.size - i = (es.size - (i + 1)) + 1 by omega, List.range'_succ] at hr
        cases hr
      rw [show i = more.length by rw [hlen]; omega, List.take_length] at hd'
      exact wpAny_pure (hQ h' hd' hs')
    · exact ⟨s.heap, 0, rfl, by rw [List.range_eq_range', Nat.sub_zero], Nat.zero_le _, by rw [List.take_zero]; exact hd, hoa, Heap.SameBut.refl _ _⟩
end
end R0
/-! {**a, k: v, ..}. -/
namespace R0
open PySem PySem.Spec PyProof.Rows L2

theorem run_on (d : Addr) (f : (Option (Sem Value) × Sem Value) → (Option Addr × List (Sem Value × Sem Value)) → Sem (ForInStep (Option Addr × List (Sem Value × Sem Value))))
    (hf : ∀ (p : Sem Value × Sem Value) (run : List (Sem Value × Sem Value)), run.length < 16 → f (some p.1, p.2) (some d, run) = pure (.yield (some d, run ++ [p]))) :
    ∀ (items run : List (Sem Value × Sem Value)), run.length + items.length ≤ 16 → forIn (items.map fun p => (some p.1, p.2)) (some d, run) f = pure (some d, run ++ items)
  | [], run, _ => by simp
  | p :: r, run, h => by
    rw [List.length_cons] at h
    rw [List.map_cons, List.forIn_cons, hf p run (by omega), pure_bind]
    have z := run_on d f hf r (run ++ [p]) (by rw [List.length_append, List.length_singleton]; omega)
    rw [List.append_assoc] at z
    exact z
section
variable {prog : Program} {w : World} {A : Around} {E : Value → Shared → Prop} {s : Shared}
theorem wp_dd {pairs : List (Sem Value × Sem Value)} {v0 : Sem Value} {Q : Value → Shared → Prop} (h0 : pairs ≠ []) (hlen : pairs.length ≤ 15)
    (h : wpAny (model prog w) A v0 (fun m s1 => wpAny (model prog w) A (mergeMapping s.heap.objs.size m false) (fun _ s2 => wpAny (model prog w) A (subDict pairs) (fun q s3 => wpAny (model prog w) A (mergeMapping s.heap.objs.size (.ref q) false) (fun _ s4 => Q (.ref s.heap.objs.size) s4) (fun _ _ => False) s3) E s2) (fun _ _ => False) s1) E
      { s with heap := s.heap.push { cls := .type "dict", data := .dict #[] } }) :
    wpAny (model prog w) A (dictDisplay ((none, v0) :: pairs.map fun p => (some p.1, p.2))) Q E s := by
  unfold dictDisplay
  dsimp only
  rw [List.forIn_cons]
  refine wpAny_bind ?_
  refine wpAny_bind ?_
  dsimp only [List.isEmpty_nil]
  rw [if_pos rfl, pure_bind]
  dsimp only
  refine wpAny_bind (wpAny_alloc ?_)
  refine wpAny_bind (wpAny_holding (wpAny_mono h (fun m s1 hm => ?_) fun _ _ z => z))
  refine wpAny_bind (wpAny_onRaise (wpAny_tryCatch (wpAny_onRaise (wpAny_holding (wpAny_mono hm (fun _ s2 h2 => ?_) fun _ _ z => z.elim)))))
  refine wpAny_pure ?_
  dsimp only
  rw [run_on s.heap.objs.size _ (fun p run hl => by
    have hne : ((run ++ [(p.1, p.2)]).length == 17) = false := by rw [List.length_append, List.length_singleton, beq_eq_false_iff_ne]; omega
    dsimp only
    rw [hne, if_neg Bool.false_ne_true]) pairs [] (by rw [List.length_nil]; omega)]
  refine wpAny_pure ?_
  dsimp only
  have he : ([] ++ pairs).isEmpty = false := by
    cases pairs with
    | nil => exact absurd rfl h0
    | cons p r => rfl
  rw [he, if_neg Bool.false_ne_true]
  dsimp only [List.nil_append]
  refine wpAny_bind (wpAny_bind (wpAny_holding (wpAny_mono h2 (fun q s3 h3 => ?_) fun _ _ z => z)))
  refine wpAny_bind (wpAny_onRaise (wpAny_holding (wpAny_mono h3 (fun _ s4 h4 => ?_) fun _ _ z => z.elim)))
  exact wpAny_pure (wpAny_pure h4)
end
end R0
/-! {**a, k: v, ..}: the rule. -/
namespace R0
open PySem PySem.Spec PyProof.Rows L2

section
variable {X : Cx}
theorem mix_noref {P : Program} {w : World} : ∀ (k : Key) (v : Value), (mixKind P w).is k v = true → ∀ b, v ≠ .ref b := fun k v h b e => by
  rcases keyIs_shape h with ⟨i, t, _, e2⟩ | ⟨x, t, _, e2⟩ <;> rw [e] at e2 <;> cases e2
theorem merge_dK {pins : List (Addr × Obj)} {σ : L2.St} {H : Hp} {s : Shared} {d a : Addr} {k0 k1 : List (Key × V)} {E : Value → Shared → Prop} {Q : Unit → Shared → Prop} (I : Inv X pins σ H s) (hd : H d = some (.dK k0)) (ha : Rd H a (.dK k1)) (hne : d ≠ a) (hz : k0.length + k1.length ≤ 10000)
    (h : ∀ s', Inv X pins σ (upd H d (.dK (mergeK k0 k1))) s' → Q () s') : wpAny (model X.prog X.w) X.A (mergeMapping d (.ref a) false) Q E s := by
  obtain ⟨_, lo, v0, r0, d0⟩ := dk_of I.hok hd
  obtain ⟨_, lo1, v1, r1, d1⟩ := dk_rd I.hok ha
  have l0 : k0.length = v0.length := Paired.length r0
  have l1 : k1.length = v1.length := Paired.length r1
  refine merge_pairs hne lo1 d0 d1 (by rw [sizeLine_eq]; omega) mix_noref fun h' hd' hs => ?_
  have hx : (mergeK k0 k1).length ≤ sizeLine := by
    have := length_mergeK k1 k0
    rw [sizeLine_eq]; omega
  have he : ∃ q, h'.get? d = some q := let ⟨q, _, _, hq, _⟩ := hd'; ⟨q, hq⟩
  exact h _ (d_write (t' := s.toks) I (by rw [hd]; exact True.intro) hs he (dk_new hx lo (r1.merge r0) hd'))
/-- {**e, k: v, ..} -/
def tDD (te : TE) (trs : List (TE × TE)) : TE := fun σ H Q => ∀ p, H p = none → te σ (upd H p (.dK [])) fun x H1 => ∃ a kvs, x = V.ref a ∧ Rd H1 a (.dK kvs) ∧ a ≠ p ∧ H1 p = some (.dK []) ∧ kvs.length ≤ 1000 ∧
  ∀ q, (upd H1 p (.dK (mergeK [] kvs))) q = none → tPairs trs σ (upd (upd H1 p (.dK (mergeK [] kvs))) q (.dK [])) fun ps H2 => H2 p = some (.dK (mergeK [] kvs)) ∧ H2 q = some (.dK []) ∧ ∃ more : List (Key × V), ps = more.map (fun kv => (kV kv.1, kv.2)) ∧ more.length ≤ 15 ∧
    Q (.ref p) (upd (upd H2 q (.dK (mergeK [] more))) p (.dK (mergeK (mergeK [] kvs) (mergeK [] more))))
theorem pe_dd {pos : Pos} {ks : List (Option Expr)} {e : Expr} {vs : List Expr} {te : TE} {trs : List (TE × TE)} (he : PE X e te) (h : PPs X pos ks vs trs) (hall : ks.all (·.isSome) = true) (hl : ks.length = vs.length) (h0 : ks ≠ []) (h15 : ks.length ≤ 15) : PE X (.Dict (none :: ks) (e :: vs) pos) (tDD te trs) := by
  refine ⟨fun pins s σ H Q I q => ?_⟩
  have hn := I.hok.fresh (Nat.le_refl s.heap.objs.size)
  have I1 := I.laid (a := s.heap.objs.size) (o := .dK []) (h' := s.heap.push { cls := .type "dict", data := .dict #[] }) (t' := s.toks) (fun _ _ q => Heap.get?_push_of_some _ q) (Nat.le_refl _) (dk_empty s.heap I.big)
  have hpl := pairTrees_length ks vs X.env pos hall hl
  rw [arm_eval_Dict]
  refine wpAny_bind (wpAny_standAt ?_)
  have hshape : (evalEachOpt (none :: ks) X.env).zip ((evalEach (e :: vs) X.env).map fun v => do let x ← v; standAt pos; pure x) = (none, (do let x ← eval e X.env; standAt pos; pure x)) :: (pairTrees ks vs X.env pos).map fun p => (some p.1, p.2) := by
    rw [← zip_pairTrees ks vs X.env pos hall hl]
    rfl
  rw [hshape]
  refine wp_dd (fun z => ?_) (by rw [hpl]; exact h15) ?_
  · rw [z] at hpl
    exact h0 (List.length_eq_zero_iff.mp hpl.symm)
  · refine wpAny_bind (thn (he.run pins _ σ _ _ I1 (q _ hn)) fun v s1 ⟨x, H1, I2, rx, a, kvs, ex, ha, hne, hp, hz, q2⟩ => wpAny_bind (wpAny_standAt (wpAny_pure ?_)))
    subst ex
    obtain rfl : v = Value.ref a := rx
    refine merge_dK I2 hp ha (Ne.symm hne) (by rw [List.length_nil]; omega) fun s2 I3 => ?_
    have hn3 := I3.hok.fresh (Nat.le_refl s2.heap.objs.size)
    have I4 := I3.laid (a := s2.heap.objs.size) (o := .dK []) (h' := s2.heap.push { cls := .type "dict", data := .dict #[] }) (t' := s2.toks) (fun _ _ q => Heap.get?_push_of_some _ q) (Nat.le_refl _) (dk_empty s2.heap I3.big)
    refine wpAny_subDict (knd := mixKind X.prog X.w) (by rw [hpl]; exact h15) (thn (h.run pins _ σ _ _ I4 (q2 _ hn3)) fun ws s3 ⟨ps, H2, I5, rel, e1, e2, more, ep, lk, q3⟩ => ?_)
    subst ep
    obtain ⟨rs, c, rk⟩ := carries_of (P := X.prog) (w := X.w) rel
    obtain ⟨z, hd, vs0, r0, dd⟩ := dk_of I5.hok e2
    cases r0
    refine ⟨rs, c, dd, fun h' dd' hs => ?_⟩
    have hm : (mergeK [] more).length ≤ 15 := by
      have h1 := length_mergeK more []
      rw [List.length_nil] at h1
      omega
    have he' : ∃ q, h'.get? s2.heap.objs.size = some q := let ⟨q, _, _, hq, _⟩ := dd'; ⟨q, hq⟩
    have I6 := d_write (t' := s3.toks + ws.length) I5 (by rw [e2]; exact True.intro) hs he' (dk_new (by rw [sizeLine_eq]; omega) hd (rk.merge .nil) dd')
    have hpq : s.heap.objs.size ≠ s2.heap.objs.size := fun z => by
      rw [← z, upd_same] at hn3
      cases hn3
    have hkl : (mergeK [] kvs).length ≤ 1000 := by
      have h1 := length_mergeK kvs []
      rw [List.length_nil] at h1
      omega
    refine merge_dK I6 (k0 := mergeK [] kvs) (by rw [upd_ne hpq]; exact e1) (Rd.of upd_same) hpq (by omega) fun s4 I7 => ?_
    exact ⟨.ref s.heap.objs.size, _, I7, rfl, q3⟩
end
end R0
/-! Keywords bound: some keyword-only names, the rest in a dict of its own. -/
namespace R0
open PySem PySem.Spec PyProof.Rows L2

/-- names with values as keys with values -/
def nmK {α : Type} (ex : List (PySem.Str × α)) : List (Key × α) := ex.map fun x => (Sum.inr x.1, x.2)
section
variable {prog : Program} {w : World} {A : Around} {E : Value → Shared → Prop} {s : Shared} {d : Addr}
/-- a new name laid into a dict -/
theorem ns_new {kvs : List (Key × Value)} {n : PySem.Str} {v : Value} {Q : Unit → Shared → Prop} (hm : s.heap.DictOf (mixKind prog w) d kvs) (hf : Sum.inr n ∉ kvs.map (·.1)) (hz : kvs.length ≤ sizeLine)
    (hQ : ∀ h', h'.DictOf (mixKind prog w) d (kvs ++ [(Sum.inr n, v)]) → Heap.SameBut d s.heap h' → Q () { s with heap := h', toks := s.toks + 1 }) : wpAny (model prog w) A (nsSet d n v) Q E s := by
  obtain ⟨o, es, ep, ho, hc, hd, hk, hp, hn⟩ := hm
  have hst : ∀ e ∈ es, e.key.isStr n = false := fun e he => by
    obtain ⟨k, hk1, _⟩ := hk e he
    cases q : e.key.isStr n with
    | false => rfl
    | true =>
      exfalso
      rcases keyIs_shape hk1 with ⟨i, t, e1, e2⟩ | ⟨x, t, e1, e2⟩
      · rw [e2] at q; cases q
      · rw [e2] at q
        have ex : x = n := by simpa [Value.isStr] using q
        subst ex
        obtain ⟨i, hi, ei⟩ := Array.getElem_of_mem he
        have hl : i < kvs.length := by rw [← hp.length, Array.length_toList]; exact hi
        obtain ⟨a1, _⟩ := hp.get? (i := i) (e := e) (by rw [Array.getElem?_toList, Array.getElem?_eq_getElem hi, ei]) (List.getElem?_eq_getElem hl)
        have : kvs[i].1 = k := (mixKind prog w).inj _ _ _ a1 hk1
        refine hf (List.mem_map.mpr ⟨kvs[i], List.getElem_mem hl, ?_⟩)
        rw [this, e1]
  have e1 : es.any (·.key.isStr n) = false := by
    rw [Array.any_eq_false']
    intro e he
    rw [hst e he]
    exact Bool.false_ne_true
  have e2 : es.any (·.refKey) = false := by
    rw [Array.any_eq_false']
    intro e he
    obtain ⟨k, hk1, _⟩ := hk e he
    rcases keyIs_shape hk1 with ⟨i, t, _, q⟩ | ⟨x, t, _, q⟩ <;> simp [DictEntry.refKey, q]
  have e3 : es.findIdx? (·.key.isStr n) = none := by
    rw [Array.findIdx?_eq_none_iff]
    intro e he
    exact hst e he
  have ec : aRefKeyMayBeTheName n es = false := by rw [aRefKeyMayBeTheName_at, e2, Bool.and_false]
  unfold nsSet
  refine wpAny_bind (wpAny_bind (wpAny_askSetting (wpAny_pure (wpAny_bind (wpAny_mkText (wpAny_bind (wpAny_loadPart ho ?_)))))))
  rw [hd]
  dsimp only
  rw [ec, if_neg Bool.false_ne_true]
  refine wpAny_updatePart ho ?_
  refine hQ _ ⟨_, es.push ⟨hashStr w n, .str n s.toks, v⟩, ep + 1, Heap.get?_update_self _ ho (by rw [Obj.putName_eq]; obtain ⟨c, dd, dt, sl⟩ := o; subst hd; simp only [Obj.putNameByArray, e3]; rfl), ?_, ?_, ?_, ?_, ?_⟩ (Heap.SameBut.update ..)
  · obtain ⟨c, dd, dt, sl⟩ := o
    subst hd
    rw [Obj.putName_eq]
    simp only [Obj.putNameByArray, e3]
    exact hc
  · obtain ⟨c, dd, dt, sl⟩ := o
    subst hd
    rw [Obj.putName_eq]
    simp only [Obj.putNameByArray, e3]
    rfl
  · exact hk.push (k := Sum.inr n) (mixKind_str prog w n _) _
  · have z := hp.append (k := Sum.inr n) (mixKind_str prog w n s.toks) (hashStr w n) v
    obtain ⟨l⟩ := es
    simpa using z
  · rw [List.map_append, List.nodup_append]
    refine ⟨hn, by simp, fun x hx y hy e => ?_⟩
    rw [show y = Sum.inr n by simpa using hy] at e
    exact hf (e ▸ hx)
/-- new names laid into a dict, one behind another -/
theorem ns_fill {Q : PUnit → Shared → Prop} : ∀ (ex : List (PySem.Str × Value)) (s : Shared) (kvs : List (Key × Value)), s.heap.DictOf (mixKind prog w) d kvs → ((kvs ++ nmK ex).map (·.1)).Nodup → kvs.length + ex.length ≤ sizeLine →
    (∀ h', h'.DictOf (mixKind prog w) d (kvs ++ nmK ex) → Heap.SameBut d s.heap h' → Q ⟨⟩ { s with heap := h', toks := s.toks + ex.length }) →
    wpAny (model prog w) A (forIn ex PUnit.unit fun x _ => (nsSet d x.1 x.2 >>= fun _ => pure (ForInStep.yield PUnit.unit))) Q E s
  | [], s, kvs, hm, _, _, h => by
    rw [List.forIn_nil]
    refine wpAny_pure (h s.heap ?_ (Heap.SameBut.refl _ _))
    show s.heap.DictOf (mixKind prog w) d (kvs ++ [])
    rw [List.append_nil]
    exact hm
  | x :: r, s, kvs, hm, hn, hz, h => by
    rw [List.length_cons] at hz
    have hf : Sum.inr x.1 ∉ kvs.map (·.1) := fun hx => by
      rw [List.map_append, List.nodup_append] at hn
      exact hn.2.2 _ hx _ (show (Sum.inr x.1 : Key) ∈ (nmK (x :: r)).map (·.1) from List.mem_cons_self) rfl
    rw [List.forIn_cons]
    refine wpAny_bind (wpAny_bind (ns_new hm hf (by omega) fun h' hm' hs' => wpAny_pure ?_))
    refine ns_fill r { s with heap := h', toks := s.toks + 1 } _ hm' ?_ ?_ fun h2 hm2 hs2 => ?_
    · rw [List.append_assoc]
      exact hn
    · rw [List.length_append, List.length_singleton]; omega
    · have z := h h2 (by rw [List.append_assoc] at hm2; exact hm2) (hs'.trans hs2)
      rw [List.length_cons, show s.toks + (r.length + 1) = s.toks + 1 + r.length by omega] at z
      exact z
end
end R0
/-! Keywords bound: one keyword-only name, the rest in a dict of its own. -/
namespace R0
open PySem PySem.Spec PyProof.Rows L2

theorem sort_kw {α : Type} (sel : PySem.Str → Bool) (f : PySem.Str × α → List (PySem.Str × α) × List (PySem.Str × α) → Sem (ForInStep (List (PySem.Str × α) × List (PySem.Str × α))))
    (hi : ∀ x sl ex, sel x.1 = true → sl.lookup x.1 = none → f x (sl, ex) = pure (.yield (sl ++ [x], ex))) (ho : ∀ x sl ex, sel x.1 = false → f x (sl, ex) = pure (.yield (sl, ex ++ [x]))) :
    ∀ (kw sl ex : List (PySem.Str × α)), ((sl ++ kw).map (·.1)).Nodup → forIn kw (sl, ex) f = pure (sl ++ kw.filter (fun x => sel x.1), ex ++ kw.filter fun x => !sel x.1)
  | [], sl, ex, _ => by simp
  | x :: r, sl, ex, hn => by
    rw [List.forIn_cons]
    cases hx : sel x.1 with
    | true =>
      have hl : sl.lookup x.1 = none := by
        cases q : sl.lookup x.1 with
        | none => rfl
        | some v =>
          exfalso
          rw [List.map_append, List.nodup_append] at hn
          obtain ⟨l1, l2, e, _⟩ := List.lookup_eq_some_iff.mp q
          refine hn.2.2 x.1 ?_ x.1 (by simp) rfl
          rw [e]; simp
      rw [hi x sl ex hx hl, pure_bind]
      have z := sort_kw sel f hi ho r (sl ++ [x]) ex (by rw [List.append_assoc]; exact hn)
      refine z.trans ?_
      simp [hx]
    | false =>
      rw [ho x sl ex hx, pure_bind]
      have hn' : ((sl ++ r).map (·.1)).Nodup := by
        refine hn.sublist (List.Sublist.map _ (List.Sublist.append_left (List.sublist_cons_self _ _) _))
      have z := sort_kw sel f hi ho r sl (ex ++ [x]) hn'
      refine z.trans ?_
      simp [hx]
section
variable {prog : Program} {w : World} {A : Around} {E : Value → Shared → Prop} {s : Shared}
variable {x qual : PySem.Str} {params : Arguments} {body : List Stmt} {scope : Scope} {D : Addr} {doc pm cdv ct : Value} {an : Option Addr} {sf o : PySem.Str} {more : Arg}
theorem bind_kw1 {u dv : Value} {kw : List (PySem.Str × Value)} {Q : List (PySem.Str × Value) → Shared → Prop} (h1 : params.posonlyargs.map (·.arg) = []) (h2 : params.args.map (·.arg) = [sf]) (h3 : params.kwonlyargs.map (·.arg) = [o]) (h4 : params.vararg = none) (h5 : params.kwarg = some more)
    (hso : sf ≠ o) (hsf : sf ∉ kw.map (·.1)) (hn : (kw.map (·.1)).Nodup) (hz : kw.length ≤ 1000) (hd : PySem.W.Looks (model prog w) s.heap (nsGet D o) (some dv))
    (h : ∀ h', h'.DictOf (mixKind prog w) s.heap.objs.size (nmK (kw.filter fun q => !decide (q.1 = o))) → Heap.SameBut s.heap.objs.size (s.heap.push { cls := .type "dict", data := .dict #[] }) h' → ∀ t, Q [(sf, u), (o, (kw.lookup o).getD dv), (more.arg, .ref s.heap.objs.size)] { s with heap := h', toks := t }) :
    wpAny (model prog w) A (bindArgs (PySem.W.fnOf x qual params body scope .none (.ref D) doc pm an cdv ct) ⟨[u], kw⟩) Q E s := by
  unfold bindArgs
  dsimp only [PySem.W.fnOf]
  rw [h1, h2, h3, h4, h5]
  rw [sort_kw (fun k => [sf].contains k || [o].contains k) _ (fun q sl ex hq hl => by
    dsimp only at hq ⊢
    rw [if_pos hq, hl, if_neg (by simp)]) (fun q sl ex hq => by
    dsimp only at hq ⊢
    rw [if_neg (by rw [hq]; exact Bool.false_ne_true), if_pos (show (some more).isSome = true from rfl)]) kw _ _ (by
    show ([sf] ++ kw.map (·.1)).Nodup
    exact List.nodup_cons.mpr ⟨hsf, hn⟩)]
  have ef : ∀ q ∈ kw, ([sf].contains q.1 || [o].contains q.1) = decide (q.1 = o) := fun q hq => by
    have hne : q.1 ≠ sf := fun e => hsf (e ▸ List.mem_map_of_mem hq)
    rw [Bool.eq_iff_iff]
    simp [hne]
  have eF : (kw.filter fun x => [sf].contains x.1 || [o].contains x.1).lookup o = kw.lookup o := by
    rw [List.filter_congr ef]
    clear h hn hz hsf ef
    induction kw with
    | nil => rfl
    | cons q r ih =>
      by_cases e : q.1 = o
      · obtain ⟨q1, q2⟩ := q
        obtain rfl : q1 = o := e
        rw [List.filter_cons_of_pos (by simp), List.lookup_cons_self, List.lookup_cons_self]
      · obtain ⟨q1, q2⟩ := q
        rw [List.filter_cons_of_neg (by simpa using e), ih, List.lookup_cons, show (o == q1) = false from beq_eq_false_iff_ne.mpr fun z => e z.symm]
  have eG : (kw.filter fun x => !([sf].contains x.1 || [o].contains x.1)) = kw.filter fun q => !decide (q.1 = o) := List.filter_congr fun q hq => by rw [ef q hq]
  have hG : (kw.filter fun q => !decide (q.1 = o)).length ≤ 1000 := Nat.le_trans (List.length_filter_le _ _) hz
  have nG : ((kw.filter fun q => !decide (q.1 = o)).map (·.1)).Nodup := hn.sublist (List.Sublist.map _ List.filter_sublist)
  rw [eG]
  generalize (kw.filter fun x => [sf].contains x.1 || [o].contains x.1) = F at eF ⊢
  generalize (kw.filter fun q => !decide (q.1 = o)) = G at h hG nG ⊢
  clear ef eG
  rw [pure_bind]
  refine wpAny_bind (wpAny_pure ?_)
  have ls : (([] ++ [sf]).zip [u] ++ F).lookup sf = some u := by
    show ((sf, u) :: F).lookup sf = some u
    exact List.lookup_cons_self
  have lo : (([] ++ [sf]).zip [u] ++ F).lookup o = kw.lookup o := by
    show ((sf, u) :: F).lookup o = kw.lookup o
    rw [List.lookup_cons, show (o == sf) = false from beq_eq_false_iff_ne.mpr (Ne.symm hso)]
    exact eF
  generalize ([] ++ [sf]).zip [u] ++ F = S at ls lo ⊢
  rw [if_neg (by simp)]
  rw [if_neg (by simp [ls])]
  refine wpAny_bind (wpAny_of_eq (show _ = pure S from rfl) ?_)
  have fin : ∀ (S' : List (PySem.Str × Value)) (s' : Shared), S'.lookup sf = some u → S'.lookup o = some ((kw.lookup o).getD dv) → s' = s → wpAny (model prog w) A
      (do let d ← alloc { cls := Value.type "dict", data := Data.dict #[] }
          forIn G PUnit.unit fun x _ => (nsSet d x.1 x.2 >>= fun _ => pure (ForInStep.yield PUnit.unit))
          pure (([] ++ [sf] ++ [o]).filterMap (fun n => (S'.lookup n).map fun x => (n, x)) ++ [(more.arg, Value.ref d)])) Q E s' := by
    rintro S' s' l1 l2 rfl
    refine wpAny_bind (wpAny_alloc ?_)
    refine wpAny_bind (ns_fill G _ [] (Heap.DictOf.new s'.heap) ?_ ?_ fun h' hd' hs' => wpAny_pure ?_)
    · show ((nmK G).map (·.1)).Nodup
      have e : (nmK G).map (·.1) = (G.map (·.1)).map (fun n => (Sum.inr n : Key)) := by unfold nmK; rw [List.map_map, List.map_map]; rfl
      rw [e]
      exact List.Pairwise.map _ (fun a b h e => h (Sum.inr.inj e)) nG
    · rw [List.length_nil, sizeLine_eq]; omega
    · have e : ([] ++ [sf] ++ [o]).filterMap (fun n => (S'.lookup n).map fun x => (n, x)) = [(sf, u), (o, (kw.lookup o).getD dv)] := by
        simp [l1, l2]
      rw [e]
      exact h h' hd' hs' _
  have hgz : ¬ G.length > sizeLine + 1 := by rw [sizeLine_eq]; omega
  rw [List.forIn_cons]
  cases q : kw.lookup o with
  | some v =>
    rw [q] at lo
    dsimp only
    rw [lo, if_neg (by simp), pure_bind]
    dsimp only
    rw [List.forIn_nil, pure_bind]
    dsimp only
    rw [if_neg (by simp)]
    dsimp only [List.nil_append]
    rw [if_neg hgz]
    exact fin S s ls (by rw [lo, q]; rfl) rfl
  | none =>
    rw [q] at lo
    dsimp only
    rw [lo, if_pos (show (none : Option Value).isNone = true from rfl)]
    refine wpAny_bind (wpAny_bind (wpAny_bind (hd.here (wpAny_pure ?_))))
    dsimp only
    rw [List.forIn_nil]
    refine wpAny_pure ?_
    dsimp only
    rw [if_neg (by simp)]
    dsimp only [List.nil_append]
    rw [if_neg hgz]
    refine fin (S ++ [(o, dv)]) s ?_ ?_ rfl
    · rw [List.lookup_append, ls]; rfl
    · rw [List.lookup_append, lo, q]
      show (none.or (List.lookup o [(o, dv)])) = _
      rw [List.lookup_cons_self]; rfl
end
end R0
/-! f(**e): the dict behind the stars laid into a new one, its keys read as names. -/
namespace R0
open PySem PySem.Spec PyProof.Rows L2

section
variable {prog : Program} {w : World} {κ : Type} [DecidableEq κ] {knd : KeyKind prog w κ} {A : Around} {E : Value → Shared → Prop} {s : Shared} {d a : Addr}
theorem find_none {kvs : List (κ × Value)} {k : κ} {key : Value} {Q : Option Nat → Shared → Prop} (hkey : knd.is k key = true) (hm : s.heap.DictOf knd d kvs) (hf : k ∉ kvs.map (·.1)) (h : Q none s) : wpAny (model prog w) A (dictFind d key (knd.hash k)) Q E s := by
  obtain ⟨o, es, ep, ho, hc, hd, hk, hp, hn⟩ := hm
  refine wpAny_dictFind_of hkey ho hd hk ?_
  have hix : (es.findIdx? fun e => knd.is k e.key) = kvs.findIdx? fun kv => decide (kv.1 = k) := by
    have := hp.findIdx k
    rw [← this]
    obtain ⟨l⟩ := es
    simp
  have e0 : (kvs.findIdx? fun kv => decide (kv.1 = k)) = none := List.findIdx?_eq_none_iff.mpr fun x hx => decide_eq_false fun e => hf (by rw [← e]; exact List.mem_map_of_mem hx)
  rw [hix, e0]
  exact h
/-- a whole dict laid into an empty one, where no key may come twice -/
theorem merge_once {more : List (κ × Value)} {Q : Unit → Shared → Prop} (hne : d ≠ a) (hS : (a == sysModules) = false) (hd : s.heap.DictOf knd d []) (ha : s.heap.DictOf knd a more) (hz : more.length ≤ sizeLine)
    (hnr : ∀ k v, knd.is k v = true → ∀ b, v ≠ .ref b)
    (hQ : ∀ h', h'.DictOf knd d more → Heap.SameBut d s.heap h' → Q () { s with heap := h' }) : wpAny (model prog w) A (mergeMapping d (.ref a) true) Q E s := by
  obtain ⟨oa, es, ep, hoa, hca, hda, hka, hpa, hna⟩ := id ha
  obtain ⟨od, es0, ep0, hod, hcd, hdd, _⟩ := id hd
  have hlen : more.length = es.size := by rw [← hpa.length, Array.length_toList]
  unfold mergeMapping
  have hT : s.TypeIs (.ref a) "dict" := ⟨oa, hoa, hca.1⟩
  refine wpAny_bind (wpAny_isInstance (b := true) hT (by rw [isSubtype_type]; kernel_rfl) ?_)
  rw [if_pos rfl]
  refine wpAny_bind (wpAny_specialOf hT PySem.F.slot_dict_iter.lookup ?_)
  refine wpAny_bind (wpAny_pure ?_)
  show wpAny _ _ (if (a == sysModules) = true then _ else _) _ _ _
  rw [if_neg (by rw [hS]; exact Bool.false_ne_true)]
  refine wpAny_bind (wpAny_dictEntries hod hdd ?_)
  show wpAny _ _ (if es0.isEmpty = true then _ else _) _ _ _
  refine wpAny_ite_split (fun _ => ?pre) (fun _ => ?main)
  case' pre =>
    refine wpAny_bind (wpAny_dictEntries hoa hda ?_)
    refine wpAny_bind ?_
    rw [← Array.forIn_toList]
    refine wpAny_forIn_list _ (fun rest _ s' => s' = s ∧ ∀ e ∈ rest, e ∈ es.toList) _ (fun e rest b s' hI => ?turn) (fun b s' hI => ?fin) _ _ ⟨rfl, fun e h => h⟩
    case turn =>
      obtain ⟨rfl, hm⟩ := hI
      obtain ⟨k, hk, _⟩ := hka e (Array.mem_toList_iff.mp (hm e List.mem_cons_self))
      have nr := hnr k e.key hk
      split
      · exact absurd (by assumption) (nr _)
      · exact wpAny_pure ⟨rfl, fun x hx => hm x (List.mem_cons_of_mem _ hx)⟩
    case' fin =>
      rw [hI.1]
  all_goals
    refine wpAny_bind (wpAny_dictEntries hoa hda ?_)
    refine wpAny_bind (wpAny_dictEpoch hoa hda ?_)
    refine wpAny_bind ?_
    refine wpAny_forIn_list _ (fun rest _ s' => ∃ h' i, s' = { s with heap := h' } ∧ rest = List.range' i (es.size - i) ∧ i ≤ es.size ∧ h'.DictOf knd d (more.take i) ∧ h'.get? a = some oa ∧ Heap.SameBut d s.heap h') _ (fun x rest b s' hI => ?_) (fun b s' hI => ?_) _ _ ?_
    · obtain ⟨h', i, rfl, hr, hi, hd', hoa', hs'⟩ := hI
      have hlt : i < es.size := Nat.lt_of_not_le fun h => by
        rw [Nat.sub_eq_zero_of_le h] at hr
        cases hr
      rw [show es.size - i = (es.size - (i + 1)) + 1 by omega, List.range'_succ] at hr
      obtain ⟨rfl, hrest⟩ := List.cons.inj hr
      refine wpAny_bind (wpAny_dictEntries hoa' hda ?_)
      rw [Array.getElem?_eq_getElem hlt]
      have hm : x < more.length := by rw [hlen]; exact hlt
      have hmx : more[x]? = some more[x] := List.getElem?_eq_getElem hm
      obtain ⟨hkey, hval⟩ := hpa.get? (e := es[x]) (by simp [hlt]) hmx
      obtain ⟨k', hk', hh'⟩ := hka es[x] (Array.getElem_mem hlt)
      obtain rfl : k' = more[x].1 := knd.inj _ _ _ hk' hkey
      have hfr : more[x].1 ∉ (more.take x).map (·.1) := by
        rw [← List.take_append_drop x more, List.drop_eq_getElem_cons hm, List.map_append, List.map_cons, List.nodup_append] at hna
        exact fun hx => hna.2.2 _ hx _ List.mem_cons_self rfl
      have hst : stored (more.take x) more[x].1 more[x].2 = more.take (x + 1) := by
        rw [stored, if_neg, List.take_add_one, List.getElem?_eq_getElem hm]
        · rfl
        · rw [List.any_eq_true]
          rintro ⟨kv, h1, h2⟩
          exact hfr (List.mem_map.mpr ⟨kv, h1, of_decide_eq_true h2⟩)
      have hz' : (more.take x).length ≤ sizeLine := by rw [List.length_take]; omega
      refine wpAny_bind (wpAny_holding ?_)
      show wpAny _ _ (dictFind d es[x].key es[x].hash >>= fun r => if r.isSome = true then _ else dictPut d es[x].hash es[x].key es[x].val) _ _ _
      rw [hh', hval]
      refine wpAny_bind (find_none (s := { s with heap := h' }) hkey hd' hfr ?_)
      rw [if_neg (by simp)]
      refine put_pairs (s := { s with heap := h' }) hkey hd' hz' fun h2 hd2 hs2 => ?_
      have hoa2 : h2.get? a = some oa := (hs2.2 a (Ne.symm hne)).trans hoa'
      refine wpAny_bind (wpAny_dictEpoch hoa2 hda ?_)
      rw [if_neg (by simp)]
      exact wpAny_pure ⟨h2, x + 1, rfl, hrest, hlt, by rw [← hst]; exact hd2, hoa2, hs'.trans hs2⟩
    · obtain ⟨h', i, rfl, hr, hi, hd', hoa', hs'⟩ := hI
      have hle : es.size ≤ i := Nat.le_of_not_lt fun h => by
        rw [show es.size - i = (es.size - (i + 1)) + 1 by omega, List.range'_succ] at hr
        cases hr
      rw [show i = more.length by rw [hlen]; omega, List.take_length] at hd'
      exact wpAny_pure (hQ h' hd' hs')
    · exact ⟨s.heap, 0, rfl, by rw [List.range_eq_range', Nat.sub_zero], Nat.zero_le _, by rw [List.take_zero]; exact hd, hoa, Heap.SameBut.refl _ _⟩
end
section
variable {prog : Program} {w : World} {A : Around} {E : Value → Shared → Prop} {s : Shared} {d a : Addr}
/-- the keys of a dict, all of them texts, as names -/
theorem names_in {f : Value} {kw : List (PySem.Str × Value)} {Q : List (PySem.Str × Value) → Shared → Prop} (hd : s.heap.DictOf (mixKind prog w) d (nmK kw)) (h : Q kw s) : wpAny (model prog w) A (keywordsIn f d) Q E s := by
  obtain ⟨o, es, ep, ho, hc, hdd, hk, hp, hn⟩ := hd
  unfold keywordsIn
  refine wpAny_bind (wpAny_dictEntries ho hdd ?_)
  rw [← Array.forIn_toList]
  have hl : es.toList.length = kw.length := by rw [hp.length]; unfold nmK; rw [List.length_map]
  refine wpAny_bind (wpAny_forIn_list _ (fun rest acc s' => s' = s ∧ ∃ i, rest = es.toList.drop i ∧ acc = kw.take i) _ (fun e rest b s' hI => ?_) (fun b s' hI => ?_) _ _ ⟨rfl, 0, rfl, rfl⟩)
  · obtain ⟨rfl, i, hr, rfl⟩ := hI
    have hi : i < es.toList.length := Nat.lt_of_not_le fun z => by
      rw [List.drop_eq_nil_of_le z] at hr
      cases hr
    rw [List.drop_eq_getElem_cons hi] at hr
    obtain ⟨rfl, rfl⟩ := List.cons.inj hr
    have hk2 : i < kw.length := by omega
    have he : (nmK kw)[i]? = some (Sum.inr kw[i].1, kw[i].2) := by unfold nmK; rw [List.getElem?_map, List.getElem?_eq_getElem hk2]; rfl
    obtain ⟨h1, h2⟩ := hp.get? (List.getElem?_eq_getElem hi) he
    have h1' : keyIs (Sum.inr kw[i].1) es.toList[i].key = true := h1
    rcases keyIs_shape h1' with ⟨j, t, e1, e2⟩ | ⟨x, t, e1, e2⟩
    · cases e1
    · obtain rfl : kw[i].1 = x := Sum.inr.inj e1
      rw [e2, h2]
      refine wpAny_pure ⟨rfl, i + 1, rfl, ?_⟩
      rw [List.take_add_one, List.getElem?_eq_getElem hk2]
      rfl
  · obtain ⟨rfl, i, hr, rfl⟩ := hI
    have hi : es.toList.length ≤ i := Nat.le_of_not_lt fun z => by
      rw [List.drop_eq_getElem_cons z] at hr
      cases hr
    rw [List.take_of_length_le (by omega)]
    exact wpAny_pure h
end
end R0
/-! f(**e). -/
namespace R0
open PySem PySem.Spec PyProof.Rows L2

section
variable {prog : Program} {w : World} {A : Around} {E : Value → Shared → Prop} {s : Shared}
theorem wp_ss {f : Value} {t : Sem Value} {pos : Pos} {Q : Value → Shared → Prop} {P : Heap → Prop} (hk : ∀ h, P h → ∃ k, (k = Keeper.frame ∨ k = Keeper.machine ∨ k = Keeper.boundFrame) ∧ PySem.W.Looks (model prog w) h (keeperOf f) k)
    (h : wpAny (model prog w) A t (fun m s1 => ∃ a kw, m = .ref a ∧ s.heap.objs.size ≠ a ∧ (a == sysModules) = false ∧ s1.heap.DictOf (mixKind prog w) s.heap.objs.size [] ∧ s1.heap.DictOf (mixKind prog w) a (nmK kw) ∧ kw.length ≤ 1000 ∧
      ∀ h', h'.DictOf (mixKind prog w) s.heap.objs.size (nmK kw) → Heap.SameBut s.heap.objs.size s1.heap h' → P h' ∧ wpAny (model prog w) A (call f [] kw) Q E { s1 with heap := h' }) E { s with heap := s.heap.push { cls := .type "dict", data := .dict #[] } }) :
    wpAny (model prog w) A (callWith pos f [] [] [(none, t)]) Q E s := by
  have ev : wpAny (model prog w) A (evalArgs f true [] [(none, t)]) (fun a s₁ => a.pos = [] ∧ P s₁.heap ∧ wpAny (model prog w) A (call f a.pos a.kw) Q E s₁) E s := by
    unfold evalArgs
    refine wpAny_bind (wpAny_bind (m := spliced []) (wpAny_pure (wpAny_pure (wpAny_bind (wpAny_pure ?_)))))
    refine wpAny_holding ?_
    rw [if_neg (by simp)]
    refine wpAny_bind ?_
    unfold mergedKeywords
    refine wpAny_bind (wpAny_alloc ?_)
    refine wpAny_bind (wpAny_holding ?_)
    show wpAny _ _ (forIn [((none : Option PySem.Str), t)] [] _ >>= _) _ _ _
    rw [List.forIn_cons]
    refine wpAny_bind (wpAny_bind ?_)
    refine wpAny_bind (m := pure ()) (wpAny_pure ?_)
    refine wpAny_bind (wpAny_mono h (fun m s1 hm => ?_) fun _ _ z => z)
    obtain ⟨a, kw, rfl, hne, hS, hd, ha, hz, hq⟩ := hm
    refine wpAny_bind (wpAny_onRaise (wpAny_holding (wpAny_tryCatch (wpAny_onRaise (merge_once (knd := mixKind prog w) hne hS hd ha (by unfold nmK; rw [List.length_map, sizeLine_eq]; omega) mix_noref fun h' hd' hs' => wpAny_pure ?_)))))
    dsimp only
    rw [List.forIn_nil]
    refine wpAny_pure ?_
    refine wpAny_pure ?_
    obtain ⟨hP, hc⟩ := hq h' hd' hs'
    exact wpAny_pure (wpAny_bind (wpAny_pure (wpAny_bind (wpAny_holding (names_in hd' (wpAny_pure ⟨rfl, hP, hc⟩))))))
  unfold callWith
  refine wpAny_bind (wpAny_holding (thn ev fun a s1 ⟨e1, hP, hc⟩ => wpAny_bind (wpAny_standAt ?_)))
  obtain ⟨ps, kw⟩ := a
  obtain rfl : ps = [] := e1
  obtain ⟨k, hk', L⟩ := hk _ hP
  have end_ : ∀ {u : Sem Value}, wpAny (model prog w) A u Q E s1 → wpAny (model prog w) A (u >>= fun r => holding [r] point >>= fun _ => pure r) Q E s1 := fun hu =>
    wpAny_bind (thn hu fun r s2 hr => wpAny_bind (wpAny_holding (wpAny_point (wpAny_pure hr))))
  refine wpAny_bind (L.here ?_)
  rcases hk' with rfl | rfl | rfl
  · exact end_ (Calls.wpAny_keep hc)
  · exact end_ (wpAny_operating hc)
  · exact end_ (wpAny_operating hc)
end
theorem nmK_back : ∀ {kv : List (PySem.Str × V)} {vs : List (Key × Value)}, KV (nmK kv) vs → ∃ kw : List (PySem.Str × Value), vs = nmK kw ∧ KV kv kw
  | [], vs, r => by
    cases r
    exact ⟨[], rfl, .nil⟩
  | x :: kv, vs, r => by
    obtain ⟨x1, x2⟩ := x
    cases r with
    | @cons p q ps qs h t =>
      obtain ⟨kw, e, rk⟩ := nmK_back (kv := kv) t
      obtain ⟨q1, q2⟩ := q
      obtain ⟨h1, h2⟩ := h
      dsimp only at h1 h2
      refine ⟨(x1, q2) :: kw, ?_, .cons ⟨rfl, h2⟩ rk⟩
      rw [e, ← h1]
      rfl
section
variable {X : Cx} {C f : Addr} {x : PySem.Str} {p pos kp : Pos} {e : Expr} {te : TE}
/-- C(**e): the dict behind the stars, then the class called with its names; R: what must hold of the names and the heap -/
theorem pe_ss {R : List (PySem.Str × V) → Hp → VK → Prop} (hk : PySem.W.keepIn X.K (.ref C) = true) (hg : Gl X x) (hm : X.mg x = some (.ref C)) (he : PE X e te)
    (hrun : ∀ (pins : List (Addr × Obj)) (s : Shared) (σ : L2.St) (H : Hp) (Q : VK) (kv : List (PySem.Str × V)) (kw : List (PySem.Str × Value)), Inv X pins σ H s → KV kv kw → R kv H Q → wpAny (model X.prog X.w) X.A (call (.ref C) [] kw) (EP X pins σ Q) X.xe s)
    (hdb : (x == ("__debug__" : PySem.Str)) = false := by decide) :
    PE X (.Call (.Name x p) [] [⟨none, e, kp⟩] pos) (fun σ H Q => ∀ d, H d = none → te σ (upd H d (.dK [])) fun y H1 => ∃ a kv, y = V.ref a ∧ a ≠ d ∧ Rd H1 a (.dK (nmK kv)) ∧ H1 d = some (.dK []) ∧ kv.length ≤ 1000 ∧ R kv (upd H1 d (.dK (nmK kv))) Q) := by
  refine ⟨fun pins s σ H Q I h => ?_⟩
  refine wpAny_Call_Name_kw (ld_glob I hg hm ?_ hdb)
  have hn := I.hok.fresh (Nat.le_refl s.heap.objs.size)
  have I1 := I.laid (a := s.heap.objs.size) (o := .dK []) (h' := s.heap.push { cls := .type "dict", data := .dict #[] }) (t' := s.toks) (fun _ _ q => Heap.get?_push_of_some _ q) (Nat.le_refl _) (dk_empty s.heap I.big)
  refine wp_ss (P := fun h => X.K.In h) (PySem.W.keeps_K hk) (wpAny_bind (thn (he.run pins _ σ _ _ I1 (h _ hn)) fun v s1 ⟨y, H1, I2, ry, a, kv, ey, hne, ha, hd, hz, q⟩ => wpAny_bind (wpAny_standAt (wpAny_pure ?_))))
  subst ey
  obtain rfl : v = Value.ref a := ry
  obtain ⟨_, lo, vs, rk, dd⟩ := dk_rd I2.hok ha
  obtain ⟨kw, rfl, rkw⟩ := nmK_back rk
  obtain ⟨_, hd1, vs0, r0, d0⟩ := dk_of I2.hok hd
  cases r0
  have hl : kv.length = kw.length := Paired.length rkw
  refine ⟨a, kw, rfl, Ne.symm hne, lo, d0, dd, by omega, fun h' hd' hs' => ?_⟩
  have hzz : (nmK kv).length ≤ sizeLine := by unfold nmK; rw [List.length_map, sizeLine_eq]; omega
  have I3 := d_write (t' := s1.toks) I2 (ob := .dK (nmK kv)) (by rw [hd]; exact True.intro) hs' (let ⟨q, _, _, hq, _⟩ := hd'; ⟨q, hq⟩) (dk_new hzz hd1 rk hd')
  exact ⟨I3.kIn, hrun pins _ σ _ Q kv kw I3 rkw q⟩
end
end R0
/-! A def with one keyword-only name and a dict of the other keywords; a class made by such an __init__. -/
namespace R0
open PySem PySem.Spec PyProof.Rows L2 StX

def FnW (P : Program) (w : World) (K : PySem.W.Frag) (mg : PySem.Str → Option Value) (base : Heap) (CX : CXT) (k : Nat) (f : Addr) (spw : V → List (PySem.Str × V) → Hp → VK → XK → Prop) : Prop :=
  ∀ (A : Around) (outer : List Env) (s : Shared) (H : Hp) (u : Value) (v : V) (kw : List (PySem.Str × Value)) (kv : List (PySem.Str × V)) (Q : VK) (E : XK), Room k A → Env0 P w K mg base A outer s H → RelV v u → KV kv kw → spw v kv H Q E →
    codeAny (model P w) A (.call (.ref f) ⟨[u], kw⟩) (CR CX outer P w H s Q E) s
/-- self, the keyword-only name's value, a new dict of the rest -/
def spW (sf o : PySem.Str) (dv : V) (sp : Sp) : V → List (PySem.Str × V) → Hp → VK → XK → Prop := fun v kv H Q E => sf ∉ kv.map (·.1) ∧ (kv.map (·.1)).Nodup ∧ kv.length ≤ 1000 ∧
  ∀ d, H d = none → sp [v, (kv.lookup o).getD dv, .ref d] (upd H d (.dK (nmK (kv.filter fun q => !decide (q.1 = o))))) Q E
theorem kv_names {kv : List (PySem.Str × V)} {kw : List (PySem.Str × Value)} (r : KV kv kw) : kv.map (·.1) = kw.map (·.1) := by
  unfold KV at r
  induction r with
  | nil => rfl
  | cons h t ih => rw [List.map_cons, List.map_cons, h.1, ih]
theorem kv_look {kv : List (PySem.Str × V)} {kw : List (PySem.Str × Value)} (r : KV kv kw) {dv : V} {du : Value} (hd : RelV dv du) (o : PySem.Str) : RelV ((kv.lookup o).getD dv) ((kw.lookup o).getD du) := by
  unfold KV at r
  induction r with
  | nil => exact hd
  | @cons p q ps qs h t ih =>
    obtain ⟨p1, p2⟩ := p
    obtain ⟨q1, q2⟩ := q
    obtain ⟨h1, h2⟩ := h
    dsimp only at h1 h2
    subst h1
    rw [List.lookup_cons, List.lookup_cons]
    cases o == p1 with
    | true => exact h2
    | false => exact ih
theorem kv_filter {kv : List (PySem.Str × V)} {kw : List (PySem.Str × Value)} (r : KV kv kw) (f : PySem.Str → Bool) : KV (kv.filter fun q => f q.1) (kw.filter fun q => f q.1) := by
  unfold KV at r ⊢
  induction r with
  | nil => exact .nil
  | @cons p q ps qs h t ih =>
    rw [List.filter_cons, List.filter_cons, ← h.1]
    cases f p.1 with
    | true => exact .cons h ih
    | false => exact ih
theorem kv_nmK {kv : List (PySem.Str × V)} {kw : List (PySem.Str × Value)} (r : KV kv kw) : KV (nmK kv) (nmK kw) := by
  unfold KV at r ⊢
  induction r with
  | nil => exact .nil
  | cons h t ih => exact .cons ⟨congrArg Sum.inr h.1, h.2⟩ ih
section
variable {P : Program} {w : World} {K : PySem.W.Frag} {mg : PySem.Str → Option Value} {base : Heap} {x qual : PySem.Str} {params : Arguments} {body : List Stmt} {scope : Scope} {f : Addr} {fd : FuncData} {CX : CXT} {N : List PySem.Str} {k : Nat} {sp : Sp} {sf o : PySem.Str} {dv : V} {more : Arg}
theorem env0_grown {A : Around} {outer : List Env} {s : Shared} {H : Hp} {d : Addr} {u : HO} {h' : Heap} {t : Nat} (e0 : Env0 P w K mg base A outer s H) (hd : s.heap.objs.size ≤ d) (kp : ∀ b x, s.heap.get? b = some x → h'.get? b = some x) (new : ObjOk P w (upd H d u) h' d u) (hsz : s.heap.objs.size ≤ h'.objs.size) :
    Env0 P w K mg base A outer { s with heap := h', toks := t } (upd H d u) := by
  refine ⟨e0.frames, e0.mod, fun b x e => ⟨kp b x (e0.bs b x e).1, ?_⟩, Nat.le_trans e0.bsz hsz, Heap.FunFrames.of_keeps (fun b x e _ => ⟨x, kp b x e, rfl⟩) e0.funs, fun b hb => ?_, e0.hok.laid kp hd new, e0.bare⟩
  · rw [upd_ne (Nat.ne_of_lt (Nat.lt_of_lt_of_le (Heap.lt_size (e0.bs b x e).1) hd))]
    exact (e0.bs b x e).2
  · obtain ⟨_, x, hx, _⟩ := e0.funs.mem hb
    rw [upd_ne (Nat.ne_of_lt (Nat.lt_of_lt_of_le (Heap.lt_size hx) hd))]
    exact e0.frf b hb
theorem fn_kw1 (F : FunD K x qual params body scope [] [(o, dv)] f fd) (S : FnScope N [sf, o, more.arg] scope) (h1 : params.posonlyargs.map (·.arg) = []) (h2 : params.args.map (·.arg) = [sf]) (h3 : params.kwonlyargs.map (·.arg) = [o]) (h4 : params.vararg = none) (h5 : params.kwarg = some more) (hso : sf ≠ o) (hCX : CXUp CX)
    (hbody : ∀ (cdv : Value) (A : Around) (outer : List Env) (s : Shared) (H : Hp) (vs : List V) (Q : VK) (E : XK), Room k (A.deeper (envOfC qual scope s.heap.objs.size f cdv)) → sp vs H Q E →
      ∃ t, PSs (cxOf CX P w K mg base N qual scope f cdv A outer s H E) body t ∧ t { nx := fun _ H' => Q .non H', rt := Q } (start N vs) H) : FnW P w K mg base CX (k + 1) f (spW sf o dv sp) := by
  intro A outer s H u v kw kv Q E hr e0 ru rk ⟨hs1, hs2, hs3, hs4⟩
  obtain ⟨oc, od, dV, kV, doc, pm, an, cdv, ct, osl, rfl, lk, hcd, hD, hK⟩ := F.ex
  obtain rfl : dV = .none := hD.elim (fun z => z.2) fun z => absurd rfl z.1
  obtain ⟨D, rfl, hq⟩ : ∃ D : Addr, kV = .ref D ∧ ∀ q ∈ [(o, dv)], ∃ u, PySem.W.nsIn K D q.1 = some (some u) ∧ RelV q.2 u := hK.elim (fun z => nomatch z) id
  obtain ⟨du, hdu, rdu⟩ := hq (o, dv) (List.mem_singleton.mpr rfl)
  have KX : K.In s.heap := e0.mod.kin.keeps fun b o e => (e0.bs b o e).1
  have hn : H s.heap.objs.size = none := e0.hok.fresh (Nat.le_refl _)
  have hl : kv.length = kw.length := Paired.length rk
  refine run_bnd lk hcd S hr e0 (G := fun vs H2 => vs = [v, (kv.lookup o).getD dv, V.ref s.heap.objs.size] ∧ H2 = upd H s.heap.objs.size (.dK (nmK (kv.filter fun q => !decide (q.1 = o))))) (fun A' Ex Q' h => ?_) fun s2 H2 vs ⟨e1, e2⟩ hr' => ?_
  · refine bind_kw1 (dv := du) h1 h2 h3 h4 h5 hso (by rw [← kv_names rk]; exact hs1) (by rw [← kv_names rk]; exact hs2) (by omega) (PySem.W.looks_nsIn KX hdu) fun h' hd' hs' t => ?_
    have kp : ∀ b x, s.heap.get? b = some x → h'.get? b = some x := fun b x e => (hs'.2 b (Nat.ne_of_lt (Heap.lt_size e))).trans (Heap.get?_push_of_some _ e)
    have hz : (nmK (kv.filter fun q => !decide (q.1 = o))).length ≤ sizeLine := by
      unfold nmK
      rw [List.length_map, sizeLine_eq]
      have := List.length_filter_le (fun q : PySem.Str × V => !decide (q.1 = o)) kv
      omega
    have hdn : (s.heap.objs.size == sysModules) = false := beq_eq_false_iff_ne.mpr (Ne.symm (Nat.ne_of_lt (env0_big e0)))
    have new : ObjOk P w (upd H s.heap.objs.size (.dK (nmK (kv.filter fun q => !decide (q.1 = o))))) h' s.heap.objs.size (.dK (nmK (kv.filter fun q => !decide (q.1 = o)))) := dk_new hz hdn (kv_nmK (kv_filter rk fun n => !decide (n = o))) hd'
    have hsz : s.heap.objs.size ≤ h'.objs.size := Nat.le_of_lt new.lt
    have e2 := env0_grown (t := t) e0 (Nat.le_refl _) kp new hsz
    have un : Un (frs outer) [] H (upd H s.heap.objs.size (.dK (nmK (kv.filter fun q => !decide (q.1 = o))))) s.heap h' := Un.laid kp (Nat.le_refl _) hn
    refine h { s with heap := h', toks := t } _ [v, (kv.lookup o).getD dv, V.ref s.heap.objs.size] [u, (kw.lookup o).getD du, Value.ref s.heap.objs.size] e2 un rfl (fun e s' => hCX outer s H _ _ E e s' un kp rfl) (.cons ru (.cons (kv_look rk rdu o) (.cons rfl .nil))) rfl ⟨rfl, rfl⟩
  · subst e1 e2
    exact hbody cdv A outer s2 _ _ Q E hr' (hs4 _ hn)
end
section
variable {X : Cx} {CX : CXT} {k : Nat} {f C : Addr} {spw : V → List (PySem.Str × V) → Hp → VK → XK → Prop} {E : XK} {x : PySem.Str} {p pos kp : Pos} {e : Expr} {te tk : TE} {kws : List Keyword} {ks : List PySem.Str} {ta : TA}
/-- a new instance of C, then its __init__ with these names -/
def rMakeW (C : Addr) (spw : V → List (PySem.Str × V) → Hp → VK → XK → Prop) (E : XK) : List (PySem.Str × V) → Hp → VK → Prop := fun kv H Q => ∀ x dx, H x = none → H dx = none → dx ≠ x →
  spw (.ref x) kv (upd (upd H dx (.own x)) x (.ins C dx [])) (fun v H2 => v = .non ∧ Q (.ref x) H2) E
theorem run_makeW (M : Mk X.K C f) (F : FnW X.prog X.w X.K X.mg X.base CX k f spw) (hr : Room (k + 1) X.A) (hx : Passes CX X E) (pins : List (Addr × Obj)) (s : Shared) (σ : L2.St) (H : Hp) (Q : VK) (kv : List (PySem.Str × V)) (kw : List (PySem.Str × Value)) (I : Inv X pins σ H s) (r : KV kv kw) (h : rMakeW C spw E kv H Q) :
    wpAny (model X.prog X.w) X.A (call (.ref C) [] kw) (EP X pins σ Q) X.xe s := by
  have hq := h (s.heap.objs.size + 1) s.heap.objs.size (I.hok.fresh (Nat.le_succ _)) (I.hok.fresh (Nat.le_refl _)) (Nat.ne_of_lt (Nat.lt_succ_self _))
  have I2 := Inv.made (C := C) I
  refine wpAny_call (make_map (f := f) I.kIn M.makes M.init (beq_iff_eq.mp M.fn) (codeAny_mono (F _ X.stack _ _ (Value.ref (s.heap.objs.size + 1)) (V.ref (s.heap.objs.size + 1)) kw kv _ _ (hr.make C [] kw) (I2.env0.make C [] kw) rfl r hq) fun r s' hq' => ?_))
  cases r with
  | error e => exact hx pins σ _ _ e s' I2 hq'
  | ok fl =>
    cases fl with
    | ret u =>
      obtain ⟨v, H', I3, rv, ev, q3⟩ := I2.after hq'
      subst ev
      exact ⟨rv, ⟨V.ref (s.heap.objs.size + 1), H', I3, rfl, q3⟩⟩
    | next => exact False.elim hq'
    | brk => exact False.elim hq'
    | cont => exact False.elim hq'
/-- C(**e) -/
theorem pe_makeSS (M : Mk X.K C f) (F : FnW X.prog X.w X.K X.mg X.base CX k f spw) (hr : Room (k + 1) X.A) (hg : Gl X x) (hm : X.mg x = some (.ref C)) (hx : Passes CX X E) (he : PE X e te) (hdb : (x == ("__debug__" : PySem.Str)) = false := by decide) :
    PE X (.Call (.Name x p) [] [⟨none, e, kp⟩] pos) (fun σ H Q => ∀ d, H d = none → te σ (upd H d (.dK [])) fun y H1 => ∃ a kv, y = V.ref a ∧ a ≠ d ∧ Rd H1 a (.dK (nmK kv)) ∧ H1 d = some (.dK []) ∧ kv.length ≤ 1000 ∧ rMakeW C spw E kv (upd H1 d (.dK (nmK kv))) Q) :=
  pe_ss M.kp hg hm he (fun pins s σ H Q kv kw I r h => run_makeW M F hr hx pins s σ H Q kv kw I r h) hdb
theorem kv_zip : ∀ {ks : List PySem.Str} {zs : List V} {ws : List Value}, Vals zs ws → KV (ks.zip zs) (ks.zip ws)
  | [], _, _, _ => by rw [List.zip_nil_left, List.zip_nil_left]; exact .nil
  | k :: ks, _, _, .nil => .nil
  | k :: ks, _, _, .cons h t => .cons ⟨rfl, h⟩ (kv_zip t)
/-- C(k = v, ..) -/
theorem pe_makeKV (M : Mk X.K C f) (F : FnW X.prog X.w X.K X.mg X.base CX k f spw) (hr : Room (k + 1) X.A) (hg : Gl X x) (hm : X.mg x = some (.ref C)) (hx : Passes CX X E) (hkw : PK X kws ta)
    (hall : (backToKw pos (keywordEach kws X.env)).all (·.1.isSome) = true := by rfl) (hks : (backToKw pos (keywordEach kws X.env)).filterMap (·.1) = ks := by rfl) (hdb : (x == ("__debug__" : PySem.Str)) = false := by decide)
    (hpl : ((backTo pos (starEach [] X.env)).any (·.1) || (backToKw pos (keywordEach kws X.env)).any (·.1.isNone)) = false := by rfl) :
    PE X (.Call (.Name x p) [] kws pos) (fun σ H Q => ta σ H fun zs H1 => rMakeW C spw E (ks.zip zs) H1 Q) := by
  refine ⟨fun pins s σ H Q I h => ?_⟩
  refine wpAny_Call_Name_kw (ld_glob I hg hm ?_ hdb)
  refine PySem.W.callWith_KW0 (h₀ := X.base) I.ok.mod.kin M.kp hall ?_ hpl
  refine thn (hkw.run pos pins s σ H _ I h) fun ws s2 ⟨zs, H2, I2, rz, q2⟩ => ⟨I2.kIn, ?_⟩
  rw [hks]
  exact run_makeW M F hr hx pins s2 σ H2 Q (ks.zip zs) (ks.zip ws) I2 (kv_zip rz) q2
/-- C() -/
theorem pe_makeN (M : Mk X.K C f) (F : FnW X.prog X.w X.K X.mg X.base CX k f spw) (hr : Room (k + 1) X.A) (hg : Gl X x) (hm : X.mg x = some (.ref C)) (hx : Passes CX X E) (hdb : (x == ("__debug__" : PySem.Str)) = false := by decide) :
    PE X (.Call (.Name x p) [] [] pos) (fun σ H Q => rMakeW C spw E [] H Q) := by
  refine ⟨fun pins s σ H Q I h => ?_⟩
  refine wpAny_Call_Name_kw (ld_glob I hg hm ?_ hdb)
  exact PySem.W.callWith_K0 I.kIn M.kp (run_makeW M F hr hx pins s σ H Q [] [] I .nil h)
end
end R0
/-! What an own class says of o[i], len(o), its truth, str(o), o == p, o != p. -/
namespace R0
open PySem PySem.Spec PyProof.Rows L2

section
variable {X : Cx} {CX : CXT} {n : Nat} {C f : Addr} {fd : FuncData} {ps : List PySem.Str} {sp : Sp} {E : XK}
theorem vr (a : Addr) : RelV (V.ref a) (Value.ref a) := rfl
/-- a def called somewhere below the body that runs -/
theorem run_below {A : Around} {pins : List (Addr × Obj)} {σ : L2.St} {H : Hp} {s : Shared} {Q : VK} {us : List Value} {vs : List V} (sb : Sub X n A) (F : FnOk X.prog X.w X.K X.mg X.base CX n f fd ps sp) (hb : Binds X.K fd ps []) (hx : Passes CX X E) (I : Inv X pins σ H s) (r : Vals vs us) (h : sp vs H Q E) :
    wpAny (model X.prog X.w) A (call (.ref f) us) (EP X pins σ Q) X.xe s := by
  have e0 : Env0 X.prog X.w X.K X.mg X.base A X.stack s H := by
    have e := I.env0
    exact ⟨by rw [sb.fr]; exact e.frames, e.mod, e.bs, e.bsz, e.funs, e.frf, e.hok, e.bare⟩
  have hl : (us ++ []).length = ps.length := by rw [List.append_nil, ← r.length, F.len _ _ _ _ h]
  refine wpAny_call (codeAny_mono (F.run A X.stack s H ⟨us, []⟩ us vs Q E sb.room e0 (by have z := hb s us I.kIn hl; rw [List.append_nil] at z; exact z) r h) fun r s' hq => ?_)
  cases r with
  | error e => exact hx pins σ H s e s' I hq
  | ok fl =>
    cases fl with
    | ret w => exact I.after hq
    | next => exact False.elim hq
    | brk => exact False.elim hq
    | cont => exact False.elim hq
theorem ins_inst {pins : List (Addr × Obj)} {σ : L2.St} {H : Hp} {s : Shared} {a dx : Addr} {fs : List (PySem.Str × V)} (I : Inv X pins σ H s) (h : H a = some (.ins C dx fs)) : ∃ od, PySem.W.InstAt s.heap a (PySem.W.instObj C dx) C (some od) := by
  obtain ⟨mA, J, _⟩ := ins_get I.hok h
  obtain ⟨od, J, _⟩ := J.look
  exact ⟨od, J⟩
/-- what is said of a special method: its def, how it binds, what leaves it -/
structure OwnM (X : Cx) (CX : CXT) (n : Nat) (C : Addr) (name : PySem.Str) (f : Addr) (fd : FuncData) (ps : List PySem.Str) (sp : Sp) (E : XK) : Prop where
  F : FnOk X.prog X.w X.K X.mg X.base CX n f fd ps sp
  b : Binds X.K fd ps []
  x : Passes CX X E
  s : PySem.W.findIn X.K (.ref C) name = some (some (.ref f))
  fn : PySem.W.isFn X.K (.ref f) = true
/-- o[i] -/
theorem ix_own (m : OwnM X CX n C "__getitem__" f fd ps sp E) (hf : PySem.W.fnIn X.K f = true) (hr : Room (n + 1) X.A) (hsl : ∀ (slice : Expr) (o i : Value), subscripted slice false o i = operate [o, i] (getItem o i) → subscripted slice true o i = runValue (.builtin "lifetime.subscript" ⟨[o, i], []⟩)) :
    IxR X (fun x y H Q => ∃ a dx fs, x = .ref a ∧ H a = some (.ins C dx fs) ∧ sp [.ref a, y] H Q E) := by
  intro value slice pins s σ H x y v u Q I rx ry h hs
  obtain ⟨a, dx, fs, rfl, ha, q⟩ := h
  obtain rfl : v = Value.ref a := rx
  obtain ⟨od, J⟩ := ins_inst I ha
  obtain ⟨mm, hF⟩ := I.fr
  exact PySem.W.sub_K hF I.ok.mod.kin J m.s hf m.fn (run_below ⟨hr.in1, rfl⟩ m.F m.b m.x I (.cons (vr a) (.cons ry .nil)) q) (hsl _ _ _ hs)
/-- len(o) -/
theorem call_lenO (m : OwnM X CX n C "__len__" f fd ps sp E) (hr : Room (n + 1) X.A) : CallR X (.builtin "len") (fun xs H Q => ∃ a dx fs, xs = [.ref a] ∧ H a = some (.ins C dx fs) ∧ sp [.ref a] H (fun v H' => ∃ i : Int, v = .int i ∧ 0 ≤ i ∧ i < 2 ^ 63 ∧ Q (.int i) H') E) := by
  intro pins s σ H xs us Q I r h
  obtain ⟨a, dx, fs, rfl, ha, q⟩ := h
  obtain rfl := Vals.ref1 r
  obtain ⟨od, J⟩ := ins_inst I ha
  obtain ⟨mm, hF⟩ := I.fr
  refine PySem.W.len_K hF I.ok.mod.kin J m.s m.fn (thn (run_below ⟨hr.in1, rfl⟩ m.F m.b m.x I (.cons (vr a) .nil) q) fun w s' ⟨v, H', I', rv, i, e, h0, h1, q'⟩ => ?_)
  subst e
  obtain ⟨t, rfl⟩ := rv
  exact ⟨⟨h0, h1⟩, ⟨.int i, H', I'.tok _, ⟨_, rfl⟩, q'⟩⟩
/-- str(o) -/
theorem call_strO (m : OwnM X CX n C "__str__" f fd ps sp E) (hr : Room (n + 2) X.A) : CallR X (.type "str") (fun xs H Q => ∃ a dx fs, xs = [.ref a] ∧ H a = some (.ins C dx fs) ∧ sp [.ref a] H (fun v H' => ∃ y : PySem.Str, v = .str y ∧ Q (.str y) H') E) := by
  intro pins s σ H xs us Q I r h
  obtain ⟨a, dx, fs, rfl, ha, q⟩ := h
  obtain rfl := Vals.ref1 r
  obtain ⟨od, J⟩ := ins_inst I ha
  refine PySem.W.kso_call (by have := hr.in1.in1.un; omega) I.kIn J m.s m.fn (thn (run_below ⟨hr.in1.in1, rfl⟩ m.F m.b m.x I (.cons (vr a) .nil) q) fun w s' ⟨v, H', I', rv, y, e, q'⟩ => ?_)
  subst e
  obtain ⟨t, rfl⟩ := rv
  exact ⟨.str y, H', I', ⟨_, rfl⟩, q'⟩
/-- the truth of o by its len -/
theorem truthy_len {A : Around} {pins : List (Addr × Obj)} {σ : L2.St} {H : Hp} {s : Shared} {Q : Bool → Hp → Prop} {a dx : Addr} {fs : List (PySem.Str × V)} (sb : Sub X (n + 1) A) (m : OwnM X CX n C "__len__" f fd ps sp E) (hnb : PySem.W.findIn X.K (.ref C) "__bool__" = some none) (I : Inv X pins σ H s) (ha : H a = some (.ins C dx fs))
    (q : sp [.ref a] H (fun v H' => ∃ i : Int, v = .int i ∧ 0 ≤ i ∧ i < 2 ^ 63 ∧ Q (i != 0) H') E) : wpAny (model X.prog X.w) A (truthy (.ref a)) (TP X pins σ Q) X.xe s := by
  obtain ⟨od, J⟩ := ins_inst I ha
  obtain ⟨mm, hF⟩ := I.fr
  unfold truthy
  refine wpAny_bind (m := callSpecial? (.ref a) (Str.ofString "__bool__")) (wpAny_bind (wpAny_bind (J.type.here ((PySem.W.looks_findIn I.kIn hnb).here (wpAny_pure ?_)))))
  refine wpAny_bind (wpAny_bind (J.type.here ((PySem.W.looks_findIn I.kIn m.s).here ?_)))
  rw [if_neg (by simp)]
  refine wpAny_bind (wpAny_runValue (codeAny_builtin entry_len ?_))
  rw [Around.under_plainId plain_len _]
  unfold Builtin.«len»
  refine wpAny_bind (m := oneArg "len" _) (wpAny_pure ?_)
  refine wpAny_bind (m := callSpecial? (.ref a) (Str.ofString "__len__")) (PySem.W.special_fn I.kIn J m.s (beq_iff_eq.mp m.fn) (thn (run_below sb.in1 m.F m.b m.x I (.cons (vr a) .nil) q) fun w s' ⟨v, H', I', rv, i, e, h0, h1, q'⟩ => ?_))
  subst e
  obtain ⟨t, rfl⟩ := rv
  refine wpAny_bind (wpAny_holding (wpAny_pure ?_))
  refine wpAny_bind (wpAny_letGo ?_)
  show wpAny _ _ (if i < 0 then _ else _) _ _ _
  rw [if_neg (by omega)]
  show wpAny _ _ (if i ≥ 2 ^ 63 then _ else _) _ _ _
  rw [if_neg (by omega)]
  exact wpAny_bind (wpAny_mkInt (wpAny_pure (wpAny_pure ⟨H', I'.tok _, q'⟩)))
/-- o as a test -/
theorem tru_own (m : OwnM X CX n C "__len__" f fd ps sp E) (hnb : PySem.W.findIn X.K (.ref C) "__bool__" = some none) (hr : Room (n + 1) X.A) :
    TruR X (fun x H Q => ∃ a dx fs, x = .ref a ∧ H a = some (.ins C dx fs) ∧ sp [.ref a] H (fun v H' => ∃ i : Int, v = .int i ∧ 0 ≤ i ∧ i < 2 ^ 63 ∧ Q (i != 0) H') E) := by
  intro pins s σ H x v Q I rx h
  obtain ⟨a, dx, fs, rfl, ha, q⟩ := h
  obtain rfl : v = Value.ref a := rx
  exact truthy_len ⟨hr, rfl⟩ m hnb I ha q
/-- bool(o) -/
theorem call_boolO (m : OwnM X CX n C "__len__" f fd ps sp E) (hnb : PySem.W.findIn X.K (.ref C) "__bool__" = some none) (hr : Room (n + 3) X.A) :
    CallR X (.type "bool") (fun xs H Q => ∃ a dx fs, xs = [.ref a] ∧ H a = some (.ins C dx fs) ∧ sp [.ref a] H (fun v H' => ∃ i : Int, v = .int i ∧ 0 ≤ i ∧ i < 2 ^ 63 ∧ Q (.bl (i != 0)) H') E) := by
  intro pins s σ H xs us Q I r h
  obtain ⟨a, dx, fs, rfl, ha, q⟩ := h
  obtain rfl := Vals.ref1 r
  refine callType_codes (T := "bool") (Bi := Builtin.«object.__init__») (Q₁ := fun r s₁ => ∃ b, r = .bool b ∧ EP X pins σ Q (.bool b) s₁) F.called_bool (F.typeCall_bool_1 _) PySem.F.entry_object_init ?_ ?_
  · refine codeAny_of_tree (wpAny_bind (wpAny_of_eq (F.newCall_bool_1 _) (wpAny_pure ⟨plainId_quiet (by decide +kernel) _, codeAny_builtin F.entry_bool_new ?_⟩)))
    rw [Around.under_plainId (by decide +kernel) _]
    unfold Builtin.«bool.__new__»
    refine wpAny_bind (wpAny_of_eq (show isType (.type "bool") = pure true from by kernel_rfl) ?_)
    rw [if_neg (by simp)]
    refine wpAny_bind (wpAny_of_eq F.conv_sub_bool ?_)
    rw [if_neg (by simp)]
    refine wpAny_bind (wpAny_pure ?_)
    refine wpAny_bind (wpAny_mono (truthy_len (A := X.A.in1.in1) ⟨hr.in1.in1, rfl⟩ m hnb I ha q) (fun b s' ⟨H', I', q'⟩ => wpAny_pure ⟨b, rfl, .bl b, H', I', rfl, q'⟩) fun _ _ z => z)
  · rintro obj s₁ ⟨b, rfl, hq⟩
    exact ⟨PySem.typeIs_bool _ _, PySem.F.args_object_init_2 _ _, object_init_meets F.called_bool.init.lookup F.called_bool.made (by decide) X.prog X.w X.A.in1 _ s₁ ⟨PySem.typeIs_bool _ _, rfl, hq⟩⟩
end
section
variable {prog : Program} {w : World} {A : Around} {E : Value → Shared → Prop} {s : Shared} {K : PySem.W.Frag} {x C f : Addr} {ox : Obj} {od : Option Obj} {b tb : Value}
theorem slot_check {M : Model} {id n : String} {rest : List Value} {Q : Unit → Shared → Prop} (X : K.In s.heap) (J : PySem.W.InstAt s.heap x ox C od) (hk : builtinKind id = some .slot) (hs : splitId id = some ("object", n)) (ha : argsOk id ⟨.ref x :: rest, []⟩) (hm : PySem.W.subIn K (.ref C) (.type "object") = some true) (q : Q () s) :
    wpAny M A (checkBuiltinCall id ⟨.ref x :: rest, []⟩) Q E s := by
  simp only [checkBuiltinCall, hk, hs]
  have hi : wpAny M A (isInstance (.ref x) (.type "object")) (fun r s' => r = true ∧ s' = s) E s := by
    unfold isInstance
    exact wpAny_bind (J.type.here ((PySem.W.looks_subIn X hm).here ⟨rfl, rfl⟩))
  refine wpAny_bind (thn hi fun r s' ⟨e1, e2⟩ => ?_)
  subst e1 e2
  rw [if_neg (by simp)]
  cases hsig : Manifest.signature? id with
  | none => exact wpAny_pure q
  | some sig =>
    simp only [argsOk, hsig] at ha
    have h2 : Bind.checkArgs id sig ⟨.ref x :: rest, []⟩ = pure () := ha
    show wpAny M A (Bind.checkArgs id sig ⟨.ref x :: rest, []⟩) Q E s'
    rw [h2]
    exact wpAny_pure q
theorem bind_ne (self : Value) : bindSpecial (.builtin "object.__ne__") self = pure (.builtin "object.__ne__", [self]) := by kernel_rfl
theorem bound_B {M : Model} {name : PySem.Str} {id : String} {args : List Value} {Q : Option Value → Shared → Prop} (X : K.In s.heap) (J : PySem.W.InstAt s.heap x ox C od) (hs : PySem.W.findIn K (.ref C) name = some (some (.builtin id))) (hb : ∀ self, bindSpecial (.builtin id) self = pure (.builtin id, [self]))
    (h : wpAny M A (call (.builtin id) (.ref x :: args)) (fun v => Q (some v)) E s) : wpAny M A (callSpecialIfBound? (.ref x) name args) Q E s := by
  simp only [callSpecialIfBound?, bindSpecialIfBound?]
  refine wpAny_holding (wpAny_bind (wpAny_bind (wpAny_bind (J.type.here ((PySem.W.looks_findIn X hs).here ?_)))))
  refine wpAny_bind (wpAny_askSetting (wpAny_ite ?_))
  have fin : wpAny M A (call (.builtin id) ([.ref x] ++ args) >>= fun v => pure (some v)) Q E s := wpAny_bind (thn h fun v s' z => wpAny_pure z)
  split
  · exact wpAny_bind ((PySem.W.Looks.of_pure (hb _)).here (wpAny_pure (by exact fin)))
  · exact wpAny_tryCatch (wpAny_bind ((PySem.W.Looks.of_pure (hb _)).here (wpAny_pure (by exact fin))))
/-- o != p by the own == -/
theorem ne_own {Q : Value → Shared → Prop} (hu : A.units + 10 < cLine) (X : K.In s.heap) (J : PySem.W.InstAt s.heap x ox C od) (hb : PySem.W.Looks (model prog w) s.heap (typeOf b) tb) (hn : PySem.W.notFirst K C tb = true) (hne : PySem.W.findIn K (.ref C) "__ne__" = some (some (.builtin "object.__ne__")))
    (hs : PySem.W.findIn K (.ref C) "__eq__" = some (some (.ref f))) (hf : PySem.W.isFn K (.ref f) = true) (hm : PySem.W.subIn K (.ref C) (.type "object") = some true)
    (h : wpAny (model prog w) A.in1 (call (.ref f) [.ref x, b]) (fun v s' => ∃ c, v = .bool c ∧ Q (.bool (!c)) s') E s) : wpAny (model prog w) A (richCompare .NotEq (.ref x) b) Q E s := by
  have body : wpAny (model prog w) A.in1 (Builtin.«object.__ne__» ⟨[.ref x, b], []⟩) (fun fin s' => ∃ c, fin = .done (.ret (.bool (!c))) ∧ Q (.bool (!c)) s') E s := by
    unfold Builtin.«object.__ne__»
    refine wpAny_bind (wpAny_of_eq (show slotArgs "__ne__" 1 ⟨[.ref x, b], []⟩ = pure (.ref x, [b]) from by kernel_rfl) ?_)
    dsimp only
    refine wpAny_bind (wpAny_cRoomFor (by show A.units + 1 < cLine; omega) ?_)
    refine wpAny_bind (PySem.W.ifBound_K X J hs hf (thn h fun v s' ⟨c, e, q⟩ => ?_))
    subst e
    exact wpAny_bind (wpAny_truthy_bool (wpAny_pure ⟨c, rfl, q⟩))
  have one : wpAny (model prog w) A (tryCompare (.ref x) "__ne__" b) (fun r s' => ∃ c, r = some (.bool (!c)) ∧ Q (.bool (!c)) s') E s := by
    unfold tryCompare
    refine wpAny_bind (bound_B X J hne bind_ne (wpAny_call (codeAny_call_builtin (by decide +kernel) F.cmpEntry_ne (slot_check X J F.cmpKind_ne F.cmpSplit_ne (F.cmpArgs_ne _ _) hm (wpAny_mono body (fun fin s' ⟨c, e, q⟩ => ?_) fun _ _ z => z)))))
    subst e
    exact wpAny_pure ⟨c, rfl, q⟩
  unfold richCompare
  simp only [oneThing_ref]
  refine wpAny_holding (wpAny_bind (wpAny_cRoomFor (by omega) ?_))
  refine wpAny_bind (J.type.here (wpAny_bind (hb.here ?_)))
  split
  · rename_i q
    have e : PySem.W.subIn K tb (.ref C) = some false := by
      rcases Bool.or_eq_true_iff.mp hn with e | e
      · rw [beq_iff_eq.mp e] at q; simp at q
      · exact beq_iff_eq.mp e
    refine wpAny_bind ((PySem.W.looks_subIn X e).here ?_)
    rw [if_neg Bool.false_ne_true]
    refine wpAny_bind (thn one fun r s' ⟨c, e, q⟩ => ?_)
    subst e
    exact wpAny_pure q
  · refine wpAny_bind (wpAny_pure ?_)
    rw [if_neg Bool.false_ne_true]
    refine wpAny_bind (thn one fun r s' ⟨c, e, q⟩ => ?_)
    subst e
    exact wpAny_pure q
end
section
variable {X : Cx} {CX : CXT} {n : Nat} {C f : Addr} {fd : FuncData} {ps : List PySem.Str} {sp : Sp} {E : XK}
/-- what == by an own class reads -/
def rEqO (K : PySem.W.Frag) (C : Addr) (sp : Sp) (E : XK) (g : Bool → Bool) : R2 := fun x y H Q => ∃ a dx fs tb, x = .ref a ∧ H a = some (.ins C dx fs) ∧ TyX K H y tb ∧ PySem.W.notFirst K C tb = true ∧ sp [.ref a, y] H (fun v H' => ∃ c, v = .bl c ∧ Q (.bl (g c)) H') E
theorem op_eqO (m : OwnM X CX n C "__eq__" f fd ps sp E) (hr : Room n X.A) : OpR X (compareOp .Eq) (rEqO X.K C sp E id) := by
  intro pins s σ H x y v u Q I rx ry h
  obtain ⟨a, dx, fs, tb, rfl, ha, ty, hn, q⟩ := h
  obtain rfl : v = Value.ref a := rx
  obtain ⟨od, J⟩ := ins_inst I ha
  obtain ⟨mm, hF⟩ := I.fr
  obtain ⟨P, Z, p, _⟩ := kit_of I ry ty
  show wpAny _ _ (richCompare .Eq (.ref a) u) _ _ _
  refine PySem.W.cmp_K (op := .Eq) (tb := tb) hr.units0 hF I.ok.mod.kin J (Z.ty _ _ I.kIn p) hn m.s m.fn (thn (run_below ⟨hr, rfl⟩ m.F m.b m.x I (.cons (vr a) (.cons ry .nil)) q) fun w s' ⟨z, H', I', rz, c, e, q'⟩ => ?_)
  subst e
  obtain rfl : w = Value.bool c := rz
  exact ⟨.bl c, H', I', rfl, q'⟩
theorem op_neO (m : OwnM X CX n C "__eq__" f fd ps sp E) (hne : PySem.W.findIn X.K (.ref C) "__ne__" = some (some (.builtin "object.__ne__"))) (hm : PySem.W.subIn X.K (.ref C) (.type "object") = some true) (hr : Room (n + 1) X.A) : OpR X (compareOp .NotEq) (rEqO X.K C sp E not) := by
  intro pins s σ H x y v u Q I rx ry h
  obtain ⟨a, dx, fs, tb, rfl, ha, ty, hn, q⟩ := h
  obtain rfl : v = Value.ref a := rx
  obtain ⟨od, J⟩ := ins_inst I ha
  obtain ⟨P, Z, p, _⟩ := kit_of I ry ty
  show wpAny _ _ (richCompare .NotEq (.ref a) u) _ _ _
  refine ne_own (tb := tb) (by have := hr.un; omega) I.kIn J (Z.ty _ _ I.kIn p) hn hne m.s m.fn hm (thn (run_below ⟨hr.in1, rfl⟩ m.F m.b m.x I (.cons (vr a) (.cons ry .nil)) q) fun w s' ⟨z, H', I', rz, c, e, q'⟩ => ?_)
  subst e
  obtain rfl : w = Value.bool c := rz
  exact ⟨c, rfl, .bl (!c), H', I', rfl, q'⟩
end
end R0
/-! iter(d) as a value, and how it is forgotten. -/
namespace R0
open PySem PySem.Spec PyProof.Rows L2

/-- a key iterator at the first key -/
def KItO (d it n ep : Nat) : HO := .ext fun h => h.IsKeyIter it d 0 n ep
theorem kit_ok {P : Program} {w : World} {H : Hp} {h : Heap} {d it n ep : Nat} (e : h.IsKeyIter it d 0 n ep) : ObjOk P w H h it (KItO d it n ep) := by
  obtain ⟨o, e1, e2, e3⟩ := e
  exact ⟨⟨o, e1, e2, e3⟩, ⟨o, e1⟩, fun h1 h2 ⟨u, f1, f2, f3⟩ k => ⟨u, k u f1, f2, f3⟩⟩
section
variable {X : Cx} {pins : List (Addr × Obj)} {σ : L2.St} {H : Hp} {s : Shared}
theorem kit_get {d it n ep : Nat} (I : Inv X pins σ H s) (h : H it = some (KItO d it n ep)) : s.heap.IsKeyIter it d 0 n ep := (I.hok it _ h).1
/-- iter(d), d a locked dict -/
def rIterD : List V → Hp → VK → Prop := fun xs H Q => ∃ d od kvs, xs = [.ref d] ∧ H d = some (.frz od (.dK kvs)) ∧ ∀ it es ep, H it = none → od.data = .dict es ep → Q (.ref it) (upd H it (KItO d it es.size ep))
theorem call_iterD : CallR X (.builtin "iter") rIterD := by
  intro pins s σ H xs us Q I r h
  obtain ⟨d, od, kvs, rfl, hd, q⟩ := h
  obtain ⟨u, rfl, ru⟩ := vals1 r
  cases ru
  obtain ⟨hs, hgd, hx, es, ep, vs, hdt, hsz, _, _⟩ := I.frzK hd
  refine Calls.call_function_entry (by decide +kernel) (by decide +kernel) PySem.W.kdk_entry_iter (PySem.W.kdk_args_iter _) ?_
  unfold Builtin.«iter»
  refine wpAny_bind (m := someArgs "iter" 1 2 _) (wpAny_of_eq (a := [Value.ref d]) (by first | rfl | kernel_rfl!) ?_)
  show wpAny _ _ (pyIter (.ref d) >>= _) _ _ _
  refine wpAny_bind (iter_keys hs hgd hx hdt ?_)
  exact wpAny_pure ⟨_, rfl, .ref s.heap.objs.size, _, I.laid (t' := s.toks) (fun b u e => Heap.get?_push_of_some _ e) (Nat.le_refl _) (kit_ok ⟨_, Heap.get?_push_size _ rfl, rfl, rfl⟩), rfl, q _ es ep (I.hok.fresh (Nat.le_refl _)) hdt⟩
/-- a thing of ours is forgotten, whatever became of it -/
theorem inv_drop {h' : Heap} {a : Addr} {φ : Heap → Prop} {t' : Nat} (I : Inv X pins σ H s) (ha : H a = some (.ext φ)) (n0 : X.s_0.heap.get? a = none ∨ a ∈ X.ex) (gk : ∀ b o, b ≠ a → s.heap.get? b = some o → h'.get? b = some o) :
    Inv X pins σ (delH H a) { s with heap := h', toks := t' } := by
  have ne0 : ∀ b o, X.s_0.heap.get? b = some o → b ∉ X.ex → b ≠ a := fun b o e hb z => by
    subst z
    rcases n0 with n | n
    · rw [n] at e; cases e
    · exact hb n
  have neN : ∀ b, H b = none → b ≠ a := fun b e z => by
    rw [z, ha] at e
    cases e
  have neT : ∀ b xs, H b = some (.tup xs) → b ≠ a := fun b xs e z => by
    rw [z, ha] at e
    cases e
  have neF : ∀ b o u, H b = some (.frz o u) → b ≠ a := fun b o u e z => by
    rw [z, ha] at e
    cases e
  have neB : ∀ b ps, H b = some (.tbl ps) → b ≠ a := fun b ps e z => by
    rw [z, ha] at e
    cases e
  have neO : ∀ b c, H b = some (.own c) → b ≠ a := fun b c e z => by
    rw [z, ha] at e
    cases e
  have cellK : ∀ x c, X.env.cells.lookup x = some c → ∀ v, s.heap.IsCell c v → h'.IsCell c v := fun x c e v ⟨o, ho, hd⟩ => ⟨o, gk c o (neN c (I.freeC x c e)) ho, hd⟩
  refine ⟨I.ok, I.os, I.bare, ⟨fun b o e n hb hq => ?_, fun b o e n hb hq => ?_, fun b o e n hq => ?_, fun b o e hq => ?_, fun b xs e => ?_, fun b o u e => ?_, fun b ps e => ?_⟩, ?_, fun x c e => ?_, ?_, fun x c e => ?_, fun p hp => ?_, fun b u e => ?_, I.len⟩
  · exact gk b o (ne0 b o e hq) (I.base.keep b o e n hb hq)
  · obtain ⟨sl, q⟩ := I.base.slot b o e n hb hq
    exact ⟨sl, gk b _ (ne0 b o e hq) q⟩
  · rw [delH_ne (ne0 b o e hq)]
    exact I.base.free b o e n hq
  · obtain ⟨o', q⟩ := I.base.there b o e hq
    exact ⟨o', gk b o' (ne0 b o e hq) q⟩
  · have q := I.base.tups b xs e
    rw [delH_ne (neT b xs q)]
    exact q
  · have q := I.base.frzs b o u e
    rw [delH_ne (neF b o u q)]
    exact q
  · obtain ⟨m, q⟩ := I.base.tbls b ps e
    exact ⟨m, by rw [delH_ne (neB b _ q)]; exact q⟩
  · obtain ⟨m, ⟨o, es, ep, ho, r⟩, hl⟩ := I.loc
    refine ⟨m, ⟨o, es, ep, gk _ _ (neN _ I.free) ho, r⟩, fun i x v e1 e2 e3 => ?_⟩
    obtain ⟨u, r', l⟩ := hl i x v e1 e2 e3
    refine ⟨u, r', ?_⟩
    rcases l with l | ⟨k, c, ec, z⟩
    · exact .inl l
    · exact .inr ⟨k, c, ec, cellK x c ec _ z⟩
  · obtain ⟨v, z⟩ := I.cell x c e
    exact ⟨v, cellK x c e v z⟩
  · rw [delH_ne (neN _ I.free)]
    exact I.free
  · rw [delH_ne (neN _ (I.freeC x c e))]
    exact I.freeC x c e
  · obtain ⟨e, n, ne, nf, d⟩ := I.pin p hp
    exact ⟨gk _ _ (neN _ n) e, by rw [delH_ne (neN _ n)]; exact n, ne, nf, d⟩
  · have hb : b ≠ a := fun z => by
      rw [z, delH_same] at e
      cases e
    rw [delH_ne hb] at e
    refine (I.hok b u e).stay (fun c v hc q => gk c v ?_ q) (fun c q => ?_) fun c xs q => ?_
    · rcases hc with z | z
      · rw [z]
        exact hb
      · exact neO _ _ z
    · rw [delH_ne (neO c b q)]
      exact q
    · rw [delH_ne (neT c xs q)]
      exact q
end
end R0
/-! list(o), o an instance of an own class with __len__, whose __iter__ gives iter(d). -/
namespace R0
open PySem PySem.Spec PyProof.Rows L2

section
variable {X : Cx} {n : Nat} {C f : Addr} {fd : FuncData} {ps : List PySem.Str} {sp : Sp} {E : XK}
/-- a def that raises nothing, called below, whatever is to hold of errors -/
theorem run_below0 {A : Around} {pins : List (Addr × Obj)} {σ : L2.St} {H : Hp} {s : Shared} {Q : VK} {us : List Value} {vs : List V} {XE' : Value → Shared → Prop} (sb : Sub X n A) (F : FnOk X.prog X.w X.K X.mg X.base CX0 n f fd ps sp) (hb : Binds X.K fd ps []) (I : Inv X pins σ H s) (r : Vals vs us) (h : sp vs H Q E) :
    wpAny (model X.prog X.w) A (call (.ref f) us) (fun v s' => EP X pins σ Q v s' ∧ CE X.stack X.prog X.w H s Q v s') XE' s := by
  have e0 : Env0 X.prog X.w X.K X.mg X.base A X.stack s H := by
    have e := I.env0
    exact ⟨by rw [sb.fr]; exact e.frames, e.mod, e.bs, e.bsz, e.funs, e.frf, e.hok, e.bare⟩
  have hl : (us ++ []).length = ps.length := by rw [List.append_nil, ← r.length, F.len _ _ _ _ h]
  refine wpAny_call (codeAny_mono (F.run A X.stack s H ⟨us, []⟩ us vs Q E sb.room e0 (by have z := hb s us I.kIn hl; rw [List.append_nil] at z; exact z) r h) fun r s' hq => ?_)
  cases r with
  | error e => exact False.elim hq
  | ok fl =>
    cases fl with
    | ret w => exact ⟨I.after hq, hq⟩
    | next => exact False.elim hq
    | brk => exact False.elim hq
    | cont => exact False.elim hq
theorem keys_vals_of {kvs : List (Key × V)} {vs : List (Key × Value)} {acc : Array Value} (rk : KV kvs vs) (hacc : ItemsOf (fun i v => ∃ k x, vs[i]? = some (k, x) ∧ keyIs k v = true) acc vs.length) : Vals (kvs.map fun kv => kV kv.1) acc.toList := by
  have hl : kvs.length = vs.length := Paired.length rk
  have el : acc.toList.length = acc.size := by simp
  refine vals_of_at (by rw [List.length_map, el, hacc.1, hl]) fun j x w h1 h2 => ?_
  obtain ⟨k, y, hky, hi⟩ := hacc.2 j w (by rw [← Array.getElem?_toList]; exact h2)
  have e1 : (kvs.map (·.1))[j]? = some k := by
    rw [KV.keys rk, List.getElem?_map, hky] <;> rfl
  have e2 : (kvs.map fun kv => kV kv.1)[j]? = some (kV k) := by
    have e3 : (kvs.map fun kv => kV kv.1) = (kvs.map (·.1)).map kV := by rw [List.map_map] <;> rfl
    rw [e3, List.getElem?_map, e1] <;> rfl
  rw [e2] at h1
  cases h1
  exact keyIs_rel hi
/-- what list(o) reads -/
def rListW (C : Addr) (spI : Sp) (EI : XK) (spL : Sp) (EL : XK) : List V → Hp → VK → Prop := fun xs H Q => ∃ a dx fs d od kvs, xs = [.ref a] ∧ H a = some (.ins C dx fs) ∧ H d = some (.frz od (.dK kvs)) ∧
  (∀ H', H' a = H a → H' d = H d → spI [.ref a] H' (fun v H'' => ∃ it es ep, v = .ref it ∧ H' it = none ∧ od.data = .dict es ep ∧ H'' = upd H' it (KItO d it es.size ep)) EI) ∧
  (∀ H', H' a = H a → H' d = H d → spL [.ref a] H' (fun v H'' => ∃ i : Int, v = .int i ∧ 0 ≤ i ∧ i < 1000000 ∧ H'' = H') EL) ∧
  ∀ q, H q = none → Q (.ref q) (upd H q (.lst (kvs.map fun kv => kV kv.1)))
end

section
variable {X : Cx} {n : Nat} {C fI fL : Addr} {fdI fdL : FuncData} {psI psL : List PySem.Str} {spI spL : Sp} {EI EL : XK}
theorem hint_own {A : Around} {pins : List (Addr × Obj)} {σ : L2.St} {H : Hp} {s : Shared} {a dx : Addr} {fs : List (PySem.Str × V)} {Q : Bool → Shared → Prop} {XE' : Value → Shared → Prop} (sb : Sub X (n + 1) A) (mL : OwnM X CX0 n C "__len__" fL fdL psL spL EL) (I : Inv X pins σ H s) (ha : H a = some (.ins C dx fs))
    (h : spL [.ref a] H (fun v H'' => ∃ i : Int, v = .int i ∧ 0 ≤ i ∧ i < 1000000 ∧ H'' = H) EL) (q : ∀ b s', Inv X pins σ H s' → Q b s') : wpAny (model X.prog X.w) A (Builtin.List.listLengthHint (.ref a)) Q XE' s := by
  obtain ⟨od, J⟩ := ins_inst I ha
  obtain ⟨mm, hF⟩ := I.fr
  unfold Builtin.List.listLengthHint
  refine wpAny_bind (wpAny_bind (J.type.here ((PySem.W.looks_findIn I.kIn mL.s).here ?_)))
  refine PySem.W.KFB.if_not rfl ?_
  refine wpAny_bind (wpAny_rule ?_)
  refine wpAny_bind (wpAny_attempt ?_)
  refine PySem.W.len_K hF I.ok.mod.kin J mL.s mL.fn (thn (run_below0 sb.in1 mL.F mL.b I (.cons (vr a) .nil) h) fun w s' ⟨⟨v, H', I', rv, i, e, h0, h1, e2⟩, _⟩ => ?_)
  subst e e2
  obtain ⟨t, rfl⟩ := rv
  refine ⟨⟨h0, by omega⟩, ?_⟩
  refine wpAny_bind (wpAny_of_eq (a := some i) (by first | rfl | kernel_rfl) ?_)
  dsimp only
  rw [if_neg (by rw [L2.notLongL (by rw [sizeLine_eq]; omega)]; exact Bool.false_ne_true)]
  exact wpAny_pure (q _ _ (I'.tok _))
theorem call_listW (hc : X.calm = true) (mI : OwnM X CX0 n C "__iter__" fI fdI psI spI EI) (mL : OwnM X CX0 n C "__len__" fL fdL psL spL EL) (hr : Room (n + 3) X.A) : CallR X (.type "list") (rListW C spI EI spL EL) := by
  intro pins s σ H xs us Q I rv h
  obtain ⟨a, dx, fs, d, od, kvs, rfl, ha, hd, hI, hL, hq⟩ := h
  obtain ⟨u, rfl, ru⟩ := rv.one
  cases ru
  have sb : Sub X (n + 1) X.A.in1.in1 := (Sub.in1 (Sub.in1 (⟨hr, rfl⟩ : Sub X (n + 3) X.A)))
  refine callType_codes (Q₁ := fun obj s₁ => obj = .ref s.heap.objs.size ∧ s₁ = { s with heap := s.heap.push { cls := .type "list", data := .seq #[] } }) PySem.F.called_list (PySem.F.typeCall_list_1 _) PySem.F.entry_list_init
    (code_list_new _ ⟨rfl, rfl⟩) fun obj s₁ h₁ => ?_
  obtain ⟨rfl, rfl⟩ := h₁
  have hS : (s.heap.push { cls := .type "list", data := .seq #[] }).get? s.heap.objs.size = some { cls := .type "list", data := .seq #[] } := Heap.get?_push_size _ rfl
  refine ⟨⟨_, hS, rfl⟩, PySem.F.args_list_init_2 _ _, ?_⟩
  have fr : H s.heap.objs.size = none := I.hok.fresh (Nat.le_refl _)
  have I1 : Inv X pins σ (upd H s.heap.objs.size (.lst [])) { s with heap := s.heap.push { cls := .type "list", data := .seq #[] } } := I.lnew (its := []) (t' := s.toks) .nil (Nat.zero_le _)
  generalize hqq : s.heap.objs.size = q at *
  show wpAny _ _ (do let old ← Builtin.List.listItems (.ref q); Builtin.List.listUpdate (.ref q) (fun _ => #[]); letGo old.toList.reverse; Builtin.List.listExtendWith (.ref q) (.ref a) .none) _ _ _
  refine wpAny_bind ?_
  unfold Builtin.List.listItems
  refine wpAny_bind (wpAny_seqItems hS rfl (wpAny_pure ?_))
  show wpAny _ _ (updateSeq q (fun _ => #[]) >>= fun _ => letGo (#[] : Array Value).toList.reverse >>= fun _ => Builtin.List.listExtendWith (.ref q) (.ref a) .none) _ _ _
  refine wpAny_bind (wpAny_updateSeq hS rfl ?_)
  have I2 := I1.lset (f := fun _ => #[]) (its := []) (its' := []) (ys := []) (t' := s.toks) upd_same hS rfl .nil (Nat.zero_le _)
  rw [upd_upd] at I2
  refine wpAny_bind (wpAny_letGo ?_)
  generalize hs2 : ({ s with heap := (s.heap.push { cls := .type "list", data := .seq #[] }).update q (Obj.mapSeq fun _ => #[]), toks := s.toks } : Shared) = s2 at I2
  have hqa : a ≠ q := ne_of_none ha fr
  have hqd : d ≠ q := ne_of_none hd fr
  generalize hH2 : upd H q (.lst []) = H2 at I2
  have ha2 : H2 a = H a := by rw [← hH2, upd_ne hqa]
  have hd2 : H2 d = H d := by rw [← hH2, upd_ne hqd]
  have hq2 : H2 q = some (.lst []) := by rw [← hH2, upd_same]
  have goal2 : wpAny (model X.prog X.w) X.A.in1.in1 (Builtin.List.listExtendWith (.ref q) (.ref a) .none)
      (fun fin s' => match fin with | .done f => wants (fun r s₂ => r = .none ∧ EP X pins σ Q (.ref q) s₂) X.xe (.ok f) s' | .again c' => c'.quiet = true ∧ codeAny (model X.prog X.w) X.A.in1 c' (wants (fun r s₂ => r = .none ∧ EP X pins σ Q (.ref q) s₂) X.xe) s') (fun e s' => wants (fun r s₂ => r = .none ∧ EP X pins σ Q (.ref q) s₂) X.xe (.error e) s') s2 := by
    obtain ⟨oda, J⟩ := ins_inst I2 (ha2.trans ha)
    obtain ⟨m0, hF⟩ := I2.fr
    unfold Builtin.List.listExtendWith
    refine wpAny_bind (J.type.here ?_)
    have h1 : Builtin.List.listSameRef (.ref q) (.ref a) = false := by simp [Builtin.List.listSameRef, Ne.symm hqa]
    have h2 : (Value.ref C == Value.type "list") = false := rfl
    have h3 : (Value.ref C == Value.type "tuple") = false := rfl
    simp only [h1, h2, h3, Bool.or_false, Bool.false_eq_true, if_false]
    refine wpAny_bind (PySem.W.owit_iter hF I2.ok.mod.kin J mI.s mI.fn (thn (run_below0 (sb.mono (Nat.le_succ n)) mI.F mI.b I2 (.cons (vr a) .nil) (hI H2 ha2 hd2)) fun w s3 ⟨I3, c3⟩ => ?_))
    obtain ⟨v, H', I3, rv3, it, es, ep, ev, hn, hdat, eH⟩ := I3
    subst ev eH
    cases rv3
    have n0 : X.s_0.heap.get? it = none ∨ it ∈ X.ex := by
      by_cases hx : it ∈ X.ex
      · exact .inr hx
      · refine .inl ?_
        cases e0 : X.s_0.heap.get? it with
        | none => rfl
        | some o =>
          obtain ⟨o', e1⟩ := I2.base.there it o e0 hx
          obtain ⟨v', H0, _, _, un, _, r0, it', es', ep', ev', hn', hdat', eH'⟩ := c3
          subst ev' eH'
          cases r0
          have z := un.free it o' e1 hn (fun z => nomatch z)
          rw [upd_same] at z
          cases z
    have hita : a ≠ it := ne_of_none (ha2.trans ha) hn
    have hitd : d ≠ it := ne_of_none (hd2.trans hd) hn
    have hitq : q ≠ it := ne_of_none hq2 hn
    generalize hH5 : upd H2 it (KItO d it es.size ep) = H5 at I3
    have ha5 : H5 a = H a := by rw [← hH5, upd_ne hita, ha2]
    have hd5 : H5 d = H d := by rw [← hH5, upd_ne hitd, hd2]
    have hq5 : H5 q = some (.lst []) := by rw [← hH5, upd_ne hitq, hq2]
    have hi5 : H5 it = some (KItO d it es.size ep) := by rw [← hH5, upd_same]
    have hk3 := kit_get I3 hi5
    unfold PySem.W.OwitIt
    refine wpAny_specialOf hk3.typeIs F.slot_dict_keyiterator_next.lookup ?_
    have loop : ∀ s5, Inv X pins σ H5 s5 → codeAny (model X.prog X.w) X.A.in1 (.builtin "list.extend.loop" ⟨[.ref q, .ref it, .none], []⟩) (wants (fun r s₂ => r = .none ∧ EP X pins σ Q (.ref q) s₂) X.xe) s5 := by
      intro s5 I5
      have hk := kit_get I5 hi5
      obtain ⟨hs, hgd, hx, es', ep', vs, hdt, hsz, kv, hat⟩ := I5.frzK (hd5.trans hd)
      rw [hdat] at hdt
      injection hdt with e1 e2
      subst e1 e2
      have hl : kvs.length = vs.length := Paired.length kv
      rw [hsz, hl] at hk
      obtain ⟨z, its, c, r3, hl3, e3⟩ := I5.lstM hq5
      cases r3
      obtain ⟨_, zk, _⟩ := (show ObjOk X.prog X.w H5 s5.heap d (.frz od (.dK kvs)) from I5.hok d _ (hd5.trans hd))
      have hh : X.A.in1.in1.handled = none := I.ok.hd hc
      refine codeAny_extend_loopS ((Walks.dictKeys (knd := mixKind X.prog X.w) hh it d hitd vs ep).toS) (by rw [← hl]; exact zk) q (by
        intro hm
        rcases List.mem_cons.mp hm with e | hm
        · exact hitq e
        · exact hqd (List.mem_singleton.mp hm).symm) .none vs.length 0 s5 #[] c (Nat.sub_zero _) (Nat.zero_le _) ⟨hk, hat⟩ e3 ⟨rfl, fun j v e => by simp at e⟩ fun s' acc c' mv hS' hacc => ?_
      have I6 := inv_drop (h' := s'.heap.update q fun _ => { cls := .type "list", dict := none, data := .seq #[] c, slots := #[] }) (t' := s'.toks) I5 hi5 n0 fun b o hb e => by
        by_cases hbq : b = q
        · subst hbq
          rw [e3] at e
          cases e
          exact Heap.get?_update_self _ hS' rfl
        · rw [Heap.get?_update_other _ _ (Ne.symm hbq)]
          exact mv.heap b o (by simp [hb, hbq]) e
      have eD : delH H5 it = H2 := by rw [← hH5]; exact delH_new hn
      rw [eD] at I6
      have I7 := I6.write (x := q) (e := q) (o := .lst (kvs.map fun kv => kV kv.1)) (h' := s'.heap) (t' := s'.toks) (by rw [hq2]; trivial) (.inl rfl) (fun b u hb e => by
        have e' : (s'.heap.update q fun _ => { cls := .type "list", dict := none, data := .seq #[] c, slots := #[] }).get? b = some u := e
        rw [Heap.get?_update_other _ _ (Ne.symm hb)] at e'
        exact e') ⟨_, hS'⟩ ⟨by rw [List.length_map]; exact zk, acc.toList, c', keys_vals_of kv hacc, by rw [Array.toArray_toList]; exact hS'⟩
      refine ⟨rfl, .ref q, _, ?_, rfl, hq q fr⟩
      rw [← hH2, upd_upd] at I7
      obtain ⟨h', g', d', t', os'⟩ := s'
      obtain ⟨m1, m2, m3, m4, m5⟩ := mv
      obtain rfl : g' = s5.gens := m2
      obtain rfl : d' = s5.drawn := m3
      obtain rfl : os' = s5.os := m4
      exact I7
    refine wpAny_bind (wpAny_holding (hint_own sb mL I3 (ha5.trans ha) (hL H5 ha5 hd5) fun b s5 I5 => ?_))
    obtain ⟨z, its, k, r3, hl3, e3⟩ := I5.lstM hq5
    cases r3
    refine wpAny_ite_split (fun _ => ?_) (fun _ => wpAny_pure ⟨plainId_quiet PySem.F.plain_extend_loop _, loop s5 I5⟩)
    refine wpAny_bind (wpAny_rule ?_)
    refine wpAny_bind ?_
    show wpAny _ _ (updateSeq q (·.push .none) >>= fun _ => updateSeq q (·.pop)) _ _ _
    refine wpAny_bind (wpAny_updateSeq e3 rfl ?_)
    have J2 := I5.lset (f := (·.push Value.none)) (its' := [Value.none]) (ys := [.non]) (t' := s5.toks) hq5 e3 (by simp) (.cons rfl .nil) (by rw [List.length_singleton, sizeLine_eq]; decide)
    obtain ⟨z4, its4, k4, r4, hl4, e4⟩ := J2.lstM upd_same
    obtain ⟨u4, rfl, ru4⟩ := r4.one
    refine wpAny_updateSeq e4 rfl ?_ (by show 1 ≤ sizeLine; rw [sizeLine_eq]; decide) (by show 0 ≤ sizeLine + 1; exact Nat.zero_le _)
    have J3 := J2.lset (f := (·.pop)) (its := [u4]) (its' := []) (ys := []) (t' := s5.toks) upd_same e4 (by rfl) .nil (Nat.zero_le _)
    rw [upd_upd] at J3
    have hH : upd H5 q (.lst []) = H5 := by
      funext b
      by_cases hb : b = q
      · rw [hb, upd_same, hq5]
      · rw [upd_ne hb]
    rw [hH] at J3
    exact wpAny_pure ⟨plainId_quiet PySem.F.plain_extend_loop _, loop _ J3⟩

  exact goal2
end
end R0
/-! sorted(d), d a dict whose keys are texts. -/
namespace R0
open PySem PySem.Spec PyProof.Rows L2 M46

theorem strs_of_keys {P : Program} {w : World} {ws : List (S × S)} {vs : List (Key × Value)} {acc : Array Value} (rk : KV (wd ws) vs) (hacc : ItemsOf (fun i v => ∃ k x, vs[i]? = some (k, x) ∧ (mixKind P w).is k v = true) acc vs.length) : StrsAre acc.toList (ws.map (·.1)) := by
  have hl : ws.length = vs.length := by rw [← wd_len]; exact Paired.length rk
  have el : acc.toList.length = ws.length := by rw [Array.length_toList, hacc.1, hl]
  have at_ : ∀ j (h : j < ws.length), ∃ t, acc.toList[j]? = some (.str (ws[j]).1 t) := fun j h => by
    have h2 : j < acc.toList.length := by omega
    obtain ⟨k, y, hky, hi⟩ := hacc.2 j acc.toList[j] (by rw [← Array.getElem?_toList]; exact List.getElem?_eq_getElem h2)
    have e1 : (wd ws).map (·.1) = vs.map (·.1) := KV.keys rk
    have e2 : ((wd ws).map (·.1))[j]? = some k := by rw [e1, List.getElem?_map, hky]; rfl
    unfold wd at e2
    rw [List.map_map, List.getElem?_map, List.getElem?_eq_getElem h] at e2
    obtain rfl : (Sum.inr (ws[j]).1 : Key) = k := Option.some.inj e2
    obtain ⟨t, e3⟩ := keyIs_rel (k := Sum.inr (ws[j]).1) hi
    refine ⟨t, ?_⟩
    rw [List.getElem?_eq_getElem h2, e3]
  revert at_ el
  generalize acc.toList = l
  clear hacc rk hl
  induction ws generalizing l with
  | nil =>
    intro el _
    have : l = [] := List.eq_nil_of_length_eq_zero el
    rw [this]
    exact .nil
  | cons x ws ih =>
    intro el at_
    cases l with
    | nil => simp at el
    | cons v l =>
      obtain ⟨t, e⟩ := at_ 0 (by simp)
      obtain rfl : v = .str x.1 t := by simpa using e
      exact .cons _ _ (ih l (by simpa using el) fun j h => by
        obtain ⟨u, q⟩ := at_ (j + 1) (by simpa using h)
        exact ⟨u, by simpa using q⟩)
/-- sorted(d) -/
def rSortedD : List V → Hp → VK → Prop := fun xs H Q => ∃ (d : Addr) (ws : List (S × S)), xs = [V.ref d] ∧ Rd H d (.dK (wd ws)) ∧ ws.length < 64 ∧
  ∀ (ys : List S) (p : Addr), ys.Perm (ws.map (·.1)) → sortedS ys = true → H p = none → Q (.ref p) (upd H p (.lst (ys.map V.str)))
theorem call_sortedD {X : Cx} (hc : X.calm = true) : CallR X (.builtin "sorted") rSortedD := by
  intro pins s σ H xs us Q I r h
  obtain ⟨d, ws, rfl, hd, h64, q⟩ := h
  obtain ⟨u, rfl, ru⟩ := r.one
  cases ru
  obtain ⟨z, lo, vs, rk, hm⟩ := (show ObjOk X.prog X.w H s.heap d (.dK (wd ws)) from hd.ok I.hok)
  obtain ⟨ep, hat⟩ := hm.dictAt
  have hl : ws.length = vs.length := by rw [← wd_len]; exact Paired.length rk
  have hh : X.A.in1.handled = none := I.ok.hd hc
  refine Calls.call_function_entry kind_sorted plain_sorted entry_sorted (args_sorted1 _) ?_
  unfold Builtin.«sorted»
  refine wpAny_bind (m := checkCount "sorted" 1 1 _) (wpAny_pure ?_)
  refine wpAny_bind (PySem.W.kdu_collect (A := X.A.in1) (PySem.W.kdl_dict (knd := mixKind X.prog X.w) (kvs := vs) (ep := ep) lo) hh hat (by rw [sizeLine_eq]; omega) fun h' tk acc hk hacc => ?_)
  have hS := strs_of_keys rk hacc
  have hL : acc.toList.length = ws.length := by rw [Array.length_toList, hacc.1, hl]
  refine wpAny_bind (wpAny_newList ?_ (by rw [hL, sizeLine_eq]; omega))
  have hoL : (h'.push (seqObj "list" acc.toList.toArray 0)).get? h'.objs.size = some (seqObj "list" acc.toList.toArray 0) := Heap.get?_push_size _ rfl
  refine wpAny_bind (wpAny_holding (wpAny_call_entry slot_list_sort ⟨_, hoL, rfl⟩ entry_list_sort (list_sort_treeK strKind_oneLt hoL hS.keysOf (fun v₁ v₂ rest e => keyKind_strs (by rw [← e]; exact hS)) (by omega) fun st' a1 a2 => ⟨_, rfl, ?_⟩) (args_list_sort _)))
  obtain ⟨ys, h1, h2, h3⟩ := sorted_out_str hS a1 a2
  refine wpAny_pure ⟨_, rfl, ?_⟩
  obtain ⟨ep', he'⟩ := sortedHeap_at (vs := acc.toList) (out := (arrOf st').map (·.2)) hoL
  have hlen : (ys.map V.str).length ≤ sizeLine := by rw [List.length_map, h2.length_eq, List.length_map, sizeLine_eq]; omega
  have I1 : Inv X pins σ H { s with heap := h', toks := tk } := I.kept hk
  exact ⟨.ref h'.objs.size, upd H h'.objs.size (.lst (ys.map V.str)), I1.laid (t' := tk) (fun b o e => by
    have e1 : h'.get? b = some o := e
    rw [sortedHeap_old (Nat.ne_of_lt (Heap.lt_size e1)) (by rw [size_push']; exact Nat.lt_succ_of_lt (Heap.lt_size e1)), Heap.get?_push_ne _ _ _ (Nat.ne_of_lt (Heap.lt_size e1))]
    exact e1) (Nat.le_refl _) ⟨hlen, _, ep', vals_of_strs h1, by rw [Array.toArray_toList]; exact he'⟩, rfl, q ys _ h2 h3 (I1.hok.fresh (Nat.le_refl _))⟩
end R0
/-! Comprehensions whose heaps are known exactly; comprehensions that lay new things. -/
namespace R0
open PySem PySem.Spec PyProof.Rows L2 M46

/-- a walk over the things xs that changes nothing, from heaps of the kind Ok -/
structure Wk (J : It) (xs : List V) (Ok : Hp → Prop) : Prop where
  go : ∀ i H, Ok H → i < xs.length → J.go i H
  stop : ∀ H, Ok H → J.stop xs.length H
  yld : ∀ i H x H', Ok H → J.yld i H x H' → H' = H ∧ xs[i]? = some x
theorem wk_list {K : PySem.W.Frag} {a : Addr} {xs : List V} : Wk (Itl K a) xs (fun H => SqL K H a xs) :=
  ⟨fun i H h hi => ⟨xs, xs[i], h, List.getElem?_eq_getElem hi⟩, fun H h => ⟨xs, h, Nat.le_refl _⟩, fun i H x H' h y => ⟨y.1, y.2 xs h⟩⟩
theorem wk_tup {K : PySem.W.Frag} {a : Addr} {xs : List V} : Wk (Itt K a) xs (fun H => SqT K H a xs) :=
  ⟨fun i H h hi => ⟨xs, xs[i], h, List.getElem?_eq_getElem hi⟩, fun H h => ⟨xs, h, Nat.le_refl _⟩, fun i H x H' h y => ⟨y.1, y.2 xs h⟩⟩
theorem wk_keys {d : Addr} {o : Obj} {kvs : List (Key × V)} : Wk (Itk d o kvs) (kvs.map fun kv => kV kv.1) (fun H => H d = some (.frz o (.dK kvs))) :=
  ⟨fun i H h hi => ⟨h, by simpa using hi⟩, fun H h => ⟨h, by simp⟩, fun i H x H' h y => by
    obtain ⟨e, k, v, hk, rfl⟩ := y
    exact ⟨e, by rw [List.getElem?_map, hk]; rfl⟩⟩
theorem wk_vals {d : Addr} {o : Obj} {kvs : List (Key × V)} : Wk (Itd d o kvs) (kvs.map (·.2)) (fun H => H d = some (.frz o (.dK kvs))) :=
  ⟨fun i H h hi => ⟨h, by simpa using hi⟩, fun H h => ⟨h, by simp⟩, fun i H x H' h y => by
    obtain ⟨e, k, hk⟩ := y
    exact ⟨e, by rw [List.getElem?_map, hk]; rfl⟩⟩
theorem take_fm {α β : Type} {F : α → Option β} {xs : List α} {i : Nat} {x : α} (h : xs[i]? = some x) : (xs.take (i + 1)).filterMap F = (xs.take i).filterMap F ++ (F x).toList := by
  rw [List.take_add_one, h, List.filterMap_append]
  cases e : F x <;> simp [e]
theorem fm_le {α β : Type} {F : α → Option β} {xs : List α} : (xs.filterMap F).length ≤ xs.length := List.length_filterMap_le _ _
theorem lc_ex {J : It} {xs : List V} {Ok : Hp → Prop} (w : Wk J xs Ok) (F : V → Option V) {g : TG} {tt : TT} {te : TE} {vs : List Nat} {σ : L2.St} {H1 : Hp} {D : Addr} {Qd : Hp → Prop}
    (hok : ∀ ys, Ok (upd H1 D (.lst ys))) (hz : xs.length ≤ 1000)
    (hs : ∀ (i : Nat) (x : V) (ys : List V) (R : V → Hp → Prop) (N : Hp → Prop), xs[i]? = some x → (∀ y, F x = some y → R y (upd H1 D (.lst ys))) → (F x = none → N (upd H1 D (.lst ys))) →
      g x (wipe σ vs) (upd H1 D (.lst ys)) fun σ2 H2 => wipe σ2 vs = wipe σ vs ∧ tt σ2 H2 fun b H3 => if b = true then te σ2 H3 R else N H3)
    (hd : Qd (upd H1 D (.lst (xs.filterMap F)))) :
    ∃ W : Nat → Nat → Hp → Prop, (∃ m, W 0 m (upd H1 D (.lst []))) ∧ ∀ i m H, W i m H →
      (J.stop i H ∧ Qd H) ∨ (J.go i H ∧ ∃ Nx : Hp → Prop, (∀ H', Nx H' → ∃ m', m' < m ∧ W (i + 1) m' H') ∧ ∀ x H', J.yld i H x H' → g x (wipe σ vs) H' fun σ2 H2 => wipe σ2 vs = wipe σ vs ∧ tt σ2 H2 fun b H3 =>
        if b = true then te σ2 H3 fun y H4 => ∃ acc, H4 D = some (.lst acc) ∧ acc.length < sizeLine ∧ Nx (upd H4 D (.lst (acc ++ [y]))) else Nx H3) := by
  refine ⟨fun i m H => m = xs.length - i ∧ i ≤ xs.length ∧ H = upd H1 D (.lst ((xs.take i).filterMap F)), ⟨xs.length, by simp, Nat.zero_le _, rfl⟩, ?_⟩
  rintro i m H ⟨rfl, hi, rfl⟩
  by_cases hlt : i < xs.length
  · refine .inr ⟨w.go i _ (hok _) hlt, fun H => H = upd H1 D (.lst ((xs.take (i + 1)).filterMap F)), fun H' e => ⟨xs.length - (i + 1), by omega, rfl, hlt, e⟩, fun x H' y => ?_⟩
    obtain ⟨e, hx⟩ := w.yld i _ x H' (hok _) y
    subst e
    refine hs i x _ _ _ hx (fun y ey => ⟨_, upd_same, ?_, ?_⟩) fun en => ?_
    · have := fm_le (F := F) (xs := xs.take i)
      rw [List.length_take] at this
      rw [sizeLine_eq]
      omega
    · rw [upd_upd, take_fm hx, ey]
      rfl
    · rw [take_fm hx, en]
      show _ = upd H1 D (.lst (_ ++ []))
      rw [List.append_nil]
  · obtain rfl : i = xs.length := by omega
    refine .inl ⟨w.stop _ (hok _), ?_⟩
    rw [List.take_length]
    exact hd
/-- a dict comprehension with new keys each time, all texts -/
theorem dc_ex {J : It} {xs : List V} {Ok : Hp → Prop} (w : Wk J xs Ok) (F : V → Option (S × S)) {g : TG} {tt : TT} {tk tv : TE} {vs : List Nat} {σ : L2.St} {H1 : Hp} {D : Addr} {Qd : Hp → Prop}
    (hok : ∀ ws, Ok (upd H1 D (.dK (wd ws)))) (hz : xs.length ≤ 1000) (hn : ((xs.filterMap F).map (·.1)).Nodup)
    (hs : ∀ (i : Nat) (x : V) (ws : List (S × S)) (R : V → V → Hp → Prop) (N : Hp → Prop), xs[i]? = some x → (∀ p : S × S, F x = some p → R (.str p.1) (.str p.2) (upd H1 D (.dK (wd ws)))) → (F x = none → N (upd H1 D (.dK (wd ws)))) →
      g x (wipe σ vs) (upd H1 D (.dK (wd ws))) fun σ2 H2 => wipe σ2 vs = wipe σ vs ∧ tt σ2 H2 fun b H3 => if b = true then tk σ2 H3 fun y H4 => tv σ2 H4 fun z H5 => R y z H5 else N H3)
    (hd : Qd (upd H1 D (.dK (wd (xs.filterMap F))))) :
    ∃ W : Nat → Nat → Hp → Prop, (∃ m, W 0 m (upd H1 D (.dK []))) ∧ ∀ i m H, W i m H →
      (J.stop i H ∧ Qd H) ∨ (J.go i H ∧ ∃ Nx : Hp → Prop, (∀ H', Nx H' → ∃ m', m' < m ∧ W (i + 1) m' H') ∧ ∀ x H', J.yld i H x H' → g x (wipe σ vs) H' fun σ2 H2 => wipe σ2 vs = wipe σ vs ∧ tt σ2 H2 fun b H3 =>
        if b = true then tk σ2 H3 fun y H4 => tv σ2 H4 fun z H5 => ∃ kvs k, y = kV k ∧ H5 D = some (.dK kvs) ∧ kvs.length < sizeLine ∧ Nx (upd H5 D (.dK (putK kvs k z))) else Nx H3) := by
  refine ⟨fun i m H => m = xs.length - i ∧ i ≤ xs.length ∧ H = upd H1 D (.dK (wd ((xs.take i).filterMap F))), ⟨xs.length, by simp, Nat.zero_le _, rfl⟩, ?_⟩
  rintro i m H ⟨rfl, hi, rfl⟩
  by_cases hlt : i < xs.length
  · refine .inr ⟨w.go i _ (hok _) hlt, fun H => H = upd H1 D (.dK (wd ((xs.take (i + 1)).filterMap F))), fun H' e => ⟨xs.length - (i + 1), by omega, rfl, hlt, e⟩, fun x H' y => ?_⟩
    obtain ⟨e, hx⟩ := w.yld i _ x H' (hok _) y
    subst e
    have hsub : List.Sublist (((xs.take (i + 1)).filterMap F).map (·.1)) ((xs.filterMap F).map (·.1)) := ((List.take_sublist _ _).filterMap F).map _
    have hnd := hsub.nodup hn
    rw [take_fm hx] at hnd
    refine hs i x _ (fun y z H5 => ∃ kvs k, y = kV k ∧ H5 D = some (.dK kvs) ∧ kvs.length < sizeLine ∧ _) _ hx (fun p ep => ⟨_, Sum.inr p.1, rfl, upd_same, ?_, ?_⟩) fun en => ?_
    · have := fm_le (F := F) (xs := xs.take i)
      rw [List.length_take] at this
      rw [wd_len, sizeLine_eq]
      omega
    · rw [ep, List.map_append, List.nodup_append] at hnd
      rw [upd_upd, put_wd, put_new (fun m => hnd.2.2 _ m p.1 (by simp) rfl), take_fm hx, ep]
      rfl
    · rw [take_fm hx, en]
      show _ = upd H1 D (.dK (wd (_ ++ [])))
      rw [List.append_nil]
  · obtain rfl : i = xs.length := by omega
    refine .inl ⟨w.stop _ (hok _), ?_⟩
    rw [List.take_length]
    exact hd
/-- a comprehension whose turns may lay new things -/
theorem lc_gr {J : It} {n : Nat} (P : Nat → List V → Hp → Prop) {g : TG} {tt : TT} {te : TE} {vs : List Nat} {σ : L2.St} {H1 : Hp} {D : Addr} {Qd : Hp → Prop} (hz : n ≤ 1000)
    (hgo : ∀ i ys H, P i ys H → i < n → J.go i H) (hstop : ∀ ys H, P n ys H → J.stop n H) (h0 : P 0 [] (upd H1 D (.lst [])))
    (hs : ∀ (i : Nat) (x : V) (ys : List V) (H H' : Hp) (R : V → Hp → Prop) (N : Hp → Prop), i < n → H D = some (.lst ys) → P i ys H → J.yld i H x H' → (∀ y H4, H4 D = some (.lst ys) → P (i + 1) (ys ++ [y]) (upd H4 D (.lst (ys ++ [y]))) → R y H4) → (∀ H4, H4 D = some (.lst ys) → P (i + 1) ys H4 → N H4) →
      g x (wipe σ vs) H' fun σ2 H2 => wipe σ2 vs = wipe σ vs ∧ tt σ2 H2 fun b H3 => if b = true then te σ2 H3 R else N H3)
    (hd : ∀ ys H, H D = some (.lst ys) → P n ys H → Qd H) :
    ∃ W : Nat → Nat → Hp → Prop, (∃ m, W 0 m (upd H1 D (.lst []))) ∧ ∀ i m H, W i m H →
      (J.stop i H ∧ Qd H) ∨ (J.go i H ∧ ∃ Nx : Hp → Prop, (∀ H', Nx H' → ∃ m', m' < m ∧ W (i + 1) m' H') ∧ ∀ x H', J.yld i H x H' → g x (wipe σ vs) H' fun σ2 H2 => wipe σ2 vs = wipe σ vs ∧ tt σ2 H2 fun b H3 =>
        if b = true then te σ2 H3 fun y H4 => ∃ acc, H4 D = some (.lst acc) ∧ acc.length < sizeLine ∧ Nx (upd H4 D (.lst (acc ++ [y]))) else Nx H3) := by
  refine ⟨fun i m H => m = n - i ∧ i ≤ n ∧ ∃ ys, H D = some (.lst ys) ∧ ys.length ≤ i ∧ P i ys H, ⟨n, by simp, Nat.zero_le _, [], upd_same, Nat.le_refl _, h0⟩, ?_⟩
  rintro i m H ⟨rfl, hi, ys, hD, hl, hP⟩
  by_cases hlt : i < n
  · refine .inr ⟨hgo i ys _ hP hlt, fun H => ∃ zs, H D = some (.lst zs) ∧ zs.length ≤ i + 1 ∧ P (i + 1) zs H, fun H' e => ⟨n - (i + 1), by omega, rfl, hlt, e⟩, fun x H' y => ?_⟩
    refine hs i x ys H H' _ _ hlt hD hP y (fun y H4 h4 hp => ⟨ys, h4, by rw [sizeLine_eq]; omega, ys ++ [y], upd_same, by rw [List.length_append, List.length_singleton]; omega, hp⟩) fun H4 h4 hp => ⟨ys, h4, by omega, hp⟩
  · obtain rfl : i = n := by omega
    exact .inl ⟨hstop ys _ hP, hd ys _ hD hP⟩
end R0
/-! o[i], o an instance of an own class with __getitem__, i no slice. -/
namespace R0
open PySem PySem.Spec PyProof.Rows L2

section
variable {X : Cx} {CX : CXT} {n : Nat} {C f : Addr} {fd : FuncData} {ps : List PySem.Str} {sp : Sp} {E : XK} {a b : Expr} {ta tb : TE} {pos : Pos}
def rIxO (C : Addr) (sp : Sp) (E : XK) : R2 := fun x y H Q => ∃ a dx fs, x = .ref a ∧ H a = some (.ins C dx fs) ∧ sp [.ref a, y] H Q E
theorem pe_ixO (m : OwnM X CX n C "__getitem__" f fd ps sp E) (hf : PySem.W.fnIn X.K f = true) (hr : Room (n + 1) X.A) (ha : PE X a ta) (hb : PE X b tb)
    (hsl : ∀ o i, subscripted b true o i = runValue (.builtin "lifetime.subscript" ⟨[o, i], []⟩) := by intro _ _; rfl) : PE X (.Subscript a b pos) (tOp (rIxO C sp E) ta tb) := by
  refine ⟨fun pins s σ H Q I h => ?_⟩
  refine Subscript_ (binT ha hb I h fun v u s2 x y H2 I2 rx ry q => ?_)
  obtain ⟨a, dx, fs, rfl, hx, q⟩ := q
  obtain rfl : v = Value.ref a := rx
  obtain ⟨od, J⟩ := ins_inst I2 hx
  obtain ⟨mm, hF⟩ := I2.fr
  exact PySem.W.sub_K hF I2.ok.mod.kin J m.s hf m.fn (run_below ⟨hr.in1, rfl⟩ m.F m.b m.x I2 (.cons (vr a) (.cons ry .nil)) q) (hsl _ _)
end
end R0
/-! o not in [..], o an instance of an own class with __eq__, among values of built-in kinds. -/
namespace R0
open PySem PySem.Spec PyProof.Rows L2

section
variable {prog : Program} {w : World} {A : Around} {E : Value → Shared → Prop} {s : Shared} {K : PySem.W.Frag} {a C : Addr} {ox : Obj} {od : Option Obj}
theorem not_inst {M : Model} {T : String} {Q : Bool → Shared → Prop} (X : K.In s.heap) (J : PySem.W.InstAt s.heap a ox C od) (hm : PySem.W.subIn K (.ref C) (.type T) = some false) (q : Q false s) : wpAny M A (isInstance (.ref a) (.type T)) Q E s := by
  unfold isInstance
  exact wpAny_bind (J.type.here ((PySem.W.looks_subIn X hm).here q))
/-- a built-in's body that declines -/
abbrev DeclB (prog : Program) (w : World) (B : Builtin) (u : Value) (a : Addr) (s : Shared) : Prop := ∀ (A : Around) (E : Value → Shared → Prop) (R : PySem.Fin → Shared → Prop), (∀ tk, R (.done (.ret .notImplemented)) { s with toks := tk }) → wpAny (model prog w) A (B ⟨[u, .ref a], []⟩) R E s
theorem decl_str {x : PySem.Str} {t : Tok} (J : PySem.W.InstAt s.heap a ox C od) (hp : ox.data = .plain) : DeclB prog w Builtin.«str.__eq__» (.str x t) a s := by
  intro A E R h
  unfold Builtin.«str.__eq__»
  refine wpAny_bind (m := Builtin.Str.strSlot "__eq__" 1 ⟨[.str x t, .ref a], []⟩) (wpAny_of_eq (a := (.str x t, x, [.ref a])) (by first | rfl | kernel_rfl) ?_)
  refine wpAny_bind (m := asStr? (.ref a)) ?_
  unfold asStr?
  refine wpAny_bind (wpAny_load J.at_ ?_)
  simp only [hp]
  refine wpAny_pure (wpAny_bind (wpAny_rule ?_))
  exact wpAny_pure (h s.toks)
theorem decl_int {i : Int} {t : Tok} (J : PySem.W.InstAt s.heap a ox C od) (hp : ox.data = .plain) : DeclB prog w Builtin.«int.__eq__» (.int i t) a s := by
  intro A E R h
  unfold Builtin.«int.__eq__»
  refine wpAny_bind (m := slotArgs "__eq__" 1 ⟨[.int i t, .ref a], []⟩) (wpAny_of_eq (a := (.int i t, [.ref a])) (by first | rfl | kernel_rfl) ?_)
  refine wpAny_bind (m := Builtin.Int.intOfSelf (.int i t)) (wpAny_of_eq (a := i) (by first | rfl | kernel_rfl) ?_)
  refine wpAny_bind (m := asInt? (.ref a)) ?_
  unfold asInt?
  refine wpAny_bind (wpAny_load J.at_ ?_)
  simp only [hp]
  refine wpAny_pure (wpAny_bind (wpAny_rule ?_))
  exact wpAny_pure (h s.toks)
theorem decl_tup {t : Addr} (X : K.In s.heap) (J : PySem.W.InstAt s.heap a ox C od) (hm : PySem.W.subIn K (.ref C) (.type "tuple") = some false) : DeclB prog w Builtin.«tuple.__eq__» (.ref t) a s := by
  intro A E R h
  unfold Builtin.«tuple.__eq__»
  refine wpAny_bind (m := slotArgs "__eq__" 1 ⟨[.ref t, .ref a], []⟩) (wpAny_of_eq (a := (.ref t, [.ref a])) (by first | rfl | kernel_rfl) ?_)
  refine wpAny_bind (m := isInstance (.ref a) (.type "tuple")) (not_inst X J hm ?_)
  exact wpAny_bind (wpAny_pure (wpAny_pure (h s.toks)))
theorem decl_dict {d : Addr} (X : K.In s.heap) (J : PySem.W.InstAt s.heap a ox C od) (hm : PySem.W.subIn K (.ref C) (.type "dict") = some false) (hT : s.TypeIs (.ref d) "dict") : DeclB prog w Builtin.«dict.__eq__» (.ref d) a s := by
  intro A E R h
  unfold Builtin.«dict.__eq__»
  refine wpAny_bind (m := Builtin.Dict.dictSlotArgs "__eq__" ⟨[.ref d, .ref a], []⟩) ?_
  unfold Builtin.Dict.dictSlotArgs
  refine wpAny_bind (wpAny_notOrdered_dict hT ?_)
  refine wpAny_bind (m := slotArgs "__eq__" 1 ⟨[.ref d, .ref a], []⟩) (wpAny_of_eq (a := (.ref d, [.ref a])) (by first | rfl | kernel_rfl) ?_)
  refine wpAny_pure ?_
  refine wpAny_bind (m := isInstance (.ref a) (.type "dict")) (not_inst X J hm ?_)
  exact wpAny_bind (wpAny_rule (wpAny_bind (wpAny_pure (wpAny_pure (h s.toks)))))
theorem decl_none : DeclB prog w Builtin.«NoneType.__eq__» .none a s := by
  intro A E R h
  unfold Builtin.«NoneType.__eq__»
  refine wpAny_bind (m := slotArgs "__eq__" 1 ⟨[.none, .ref a], []⟩) (wpAny_of_eq (a := (.none, [.ref a])) (by first | rfl | kernel_rfl) ?_)
  exact wpAny_pure (h s.toks)
/-- .. called -/
theorem decl_try {u : Value} {T id : String} {B : Builtin} {Q : Option Value → Shared → Prop} (hT : s.TypeIs u T) (slot : Slot T (cmpInfo .Eq).2.1 id) (entry : entryFor table id = some B) (args : argsOk id ⟨[u, .ref a], []⟩) (hB : DeclB prog w B u a s) (q : ∀ tk, Q none { s with toks := tk }) :
    wpAny (model prog w) A (tryCompare u "__eq__" (.ref a)) Q E s :=
  wpAny_tryCompare_declines (name := "__eq__") hT slot (call_meetsIn (S := fun _ R s' => s' = s ∧ ∀ tk, R (.ok (.ret .notImplemented)) { s with toks := tk }) slot hT entry args
    (fun A R s' ⟨e, h⟩ => by subst e; exact hB A.in1 _ _ h) ⟨rfl, fun tk => ⟨rfl, q tk⟩⟩)
/-- the walk of a list that holds nothing equal -/
theorem loop_no {l : Addr} {N : Nat} {x : Value} {Jv : Shared → Prop} {R : Result → Shared → Prop}
    (hJ : ∀ s, Jv s → ∃ (items : Array Value) (n : Nat) (dd : Option Addr) (sl : Array (Option Value)), s.heap.get? l = some { cls := .type "list", dict := dd, data := .seq items n, slots := sl } ∧ items.size = N ∧ ∀ y ∈ items, wpAny (model prog w) A.in1 (eqBool y x) (fun b s' => b = false ∧ Jv s') (fun e s' => R (.error e) s') s) (hR : ∀ s, Jv s → R (.ok (.ret (.bool false))) s) :
    ∀ (k i : Nat) (s : Shared), N - i = k → Jv s → codeAny (model prog w) A (.builtin "list.__contains__.loop" ⟨[.ref l, x, rawInt i], []⟩) R s := by
  intro k
  induction k with
  | zero =>
    intro i s hk hj
    refine codeAny_builtin MeetsSeq.entry_contains_loop ?_
    rw [Around.under_plainId MeetsSeq.plain_contains_loop _]
    obtain ⟨items, n, dd, sl, hl, hN, _⟩ := hJ s hj
    have hr := hR s hj
    clear hj
    obtain ⟨hp, g, d, tk, os⟩ := s
    wp_walk using AutoSeq1.wpAny_loadPart' hl
    have hi : items[((i : Nat) : Int).toNat]? = none := by simp; omega
    rw [hi]
    wp_walk
    exact hr
  | succ k ih =>
    intro i s hk hj
    refine codeAny_builtin MeetsSeq.entry_contains_loop ?_
    rw [Around.under_plainId MeetsSeq.plain_contains_loop _]
    obtain ⟨items, n, dd, sl, hl, hN, he⟩ := hJ s hj
    have hlt : i < items.size := by omega
    have hi : items[((i : Nat) : Int).toNat]? = some items[i] := by simp [hlt]
    have he' := he _ (Array.getElem_mem hlt)
    obtain ⟨hp, g, d, tk, os⟩ := s
    wp_walk using AutoSeq1.wpAny_loadPart' hl
    rw [hi]
    refine wpAny_bind (thn he' fun b s' ⟨eb, hj'⟩ => ?_)
    subst eb
    have hc : ((i : Int) + 1) = ((i + 1 : Nat) : Int) := by push_cast; rfl
    wp_walk
    rw [hc]
    exact ⟨plainId_quiet MeetsSeq.plain_contains_loop _, ih (i + 1) s' (by omega) hj'⟩
theorem notIn_no {l : Addr} {N : Nat} {x : Value} {Jv : Shared → Prop} {Q : Value → Shared → Prop}
    (hJ : ∀ s, Jv s → ∃ (items : Array Value) (n : Nat) (dd : Option Addr) (sl : Array (Option Value)), s.heap.get? l = some { cls := .type "list", dict := dd, data := .seq items n, slots := sl } ∧ items.size = N ∧ ∀ y ∈ items, wpAny (model prog w) A.in1 (eqBool y x) (fun b s' => b = false ∧ Jv s') E s)
    (hj : Jv s) (q : ∀ s, Jv s → Q (.bool true) s) : wpAny (model prog w) A (compareOp .NotIn x (.ref l)) Q E s := by
  obtain ⟨items, n, dd, sl, hl, hN, _⟩ := hJ s hj
  show wpAny _ A (do return .bool (!(← contains (.ref l) x))) Q E s
  refine wpAny_bind (wpAny_contains_slot ⟨_, hl, rfl⟩ F.slot_list_contains ?_)
  refine wpAny_mono (call_meetsIn (S := fun A' R s' => A' = A ∧ Jv s' ∧ (∀ s, Jv s → R (.ok (.ret (.bool false))) s) ∧ ∀ e s, E e s → R (.error e) s) F.slot_list_contains ⟨_, hl, rfl⟩ F.entry_list_contains (F.args_list_contains_2 _ _) ?_ ⟨rfl, hj, fun s hs => ?_, fun e s z => z⟩) (fun v s' z => z) fun _ _ z => z
  · rintro A' R s' ⟨rfl, hj', hR, hE⟩
    obtain ⟨items, n, dd, sl, hl, hN, _⟩ := hJ s' hj'
    have go := fun k => loop_no (prog := prog) (w := w) (A := A') (x := x) (R := R) (fun s hs => by
      obtain ⟨items, n, dd, sl, hl, hN, he⟩ := hJ s hs
      exact ⟨items, n, dd, sl, hl, hN, fun y hy => wpAny_mono (he y hy) (fun _ _ z => z) hE⟩) hR k 0 s'
    obtain ⟨hp, g, d, tk, os⟩ := s'
    wp_walk using AutoSeq1.wpAny_loadPart' hl
    exact ⟨plainId_quiet MeetsSeq.plain_contains_loop _, go _ rfl hj'⟩
  · exact wpAny_truthy_bool (wpAny_pure (q s hs))
end
end R0
/-! o not in [..] as a rule. -/
namespace R0
open PySem PySem.Spec PyProof.Rows L2

/-- a value of a built-in kind -/
inductive Bk (H : Hp) : V → Prop
  | str (x : PySem.Str) : Bk H (.str x)
  | int (i : Int) : Bk H (.int i)
  | non : Bk H .non
  | tup {t : Addr} {xs : List V} (e : H t = some (.tup xs)) : Bk H (.ref t)
  | dict {d : Addr} {kvs : List (Key × V)} (e : H d = some (.dK kvs)) : Bk H (.ref d)
theorem Bk.same {H H' : Hp} {y : V} (b : Bk H y) (s : Same H H') : Bk H' y := by
  cases b with
  | str x => exact .str x
  | int i => exact .int i
  | non => exact .non
  | tup e => exact .tup (s _ _ e)
  | dict e => exact .dict (s _ _ e)
/-- the class is under none of these -/
structure OffB (K : PySem.W.Frag) (C : Addr) : Prop where
  str : PySem.W.subIn K (.ref C) (.type "str") = some false
  int : PySem.W.subIn K (.ref C) (.type "int") = some false
  non : PySem.W.subIn K (.ref C) (.type "NoneType") = some false
  tup : PySem.W.subIn K (.ref C) (.type "tuple") = some false
  dict : PySem.W.subIn K (.ref C) (.type "dict") = some false
section
variable {X : Cx} {CX : CXT} {n : Nat} {C f : Addr} {fd : FuncData} {ps : List PySem.Str} {sp : Sp} {E : XK}
theorem eq_core {A : Around} {pins : List (Addr × Obj)} {σ : L2.St} {H : Hp} {s : Shared} {a dx : Addr} {fs : List (PySem.Str × V)} {y : V} {u : Value} {T id : String} {B : Builtin} (m : OwnM X CX n C "__eq__" f fd ps sp E) (sb : Sub X n A) (hu : A.units + 10 < cLine) (I : Inv X pins σ H s) (ha : H a = some (.ins C dx fs)) (ry : RelV y u)
    (hT : s.TypeIs u T) (hne : (u == Value.ref a) = false) (hone : oneThing? .Eq u (.ref a) = none) (hfl : ∀ x t, u ≠ .float x t) (hsub : PySem.W.subIn X.K (.ref C) (.type T) = some false) (slot : Slot T (cmpInfo .Eq).2.1 id) (entry : entryFor table id = some B) (args : argsOk id ⟨[u, .ref a], []⟩) (hB : DeclB X.prog X.w B u a s)
    (h : sp [.ref a, y] H (fun v H' => v = .bl false ∧ Same H H') E) : wpAny (model X.prog X.w) A (eqBool u (.ref a)) (fun b s' => b = false ∧ ∃ H', Inv X pins σ H' s' ∧ Same H H') X.xe s := by
  obtain ⟨od, J⟩ := ins_inst I ha
  unfold eqBool
  refine wpAny_holding ?_
  rw [if_neg (by rw [hne]; exact Bool.false_ne_true)]
  have rc : wpAny (model X.prog X.w) A (richCompare .Eq u (.ref a)) (fun v s' => v = .bool false ∧ ∃ H', Inv X pins σ H' s' ∧ Same H H') X.xe s := by
    unfold richCompare
    refine wpAny_holding (wpAny_bind (wpAny_cRoomFor (by omega) ?_))
    rw [hone]
    refine wpAny_bind (wpAny_typeOf hT (wpAny_bind (J.type.here ?_)))
    refine wpAny_bind (m := isSubtype (.ref C) (.type T)) ((PySem.W.looks_subIn I.kIn hsub).here ?_)
    dsimp only
    rw [if_neg Bool.false_ne_true]
    refine wpAny_bind (decl_try hT slot entry args hB fun tk => ?_)
    have I1 := I.tok tk
    obtain ⟨od1, J1⟩ := ins_inst I1 ha
    refine wpAny_bind (m := tryCompare (.ref a) "__eq__" u) ?_
    unfold tryCompare
    refine wpAny_bind (PySem.W.ifBound_K I1.kIn J1 m.s m.fn (thn (run_below sb m.F m.b m.x I1 (.cons (vr a) (.cons ry .nil)) h) fun v s' ⟨z, H', I', rz, e, q⟩ => ?_))
    subst e
    obtain rfl : v = Value.bool false := rz
    exact wpAny_pure (wpAny_pure ⟨rfl, H', I', q⟩)
  have fin : wpAny (model X.prog X.w) A (richCompare .Eq u (.ref a) >>= fun v => truthOfDropped v) (fun b s' => b = false ∧ ∃ H', Inv X pins σ H' s' ∧ Same H H') X.xe s :=
    wpAny_bind (thn rc fun v s' ⟨e, q⟩ => by
      subst e
      exact wpAny_truthy_bool ⟨rfl, q⟩)
  cases u <;> exact fin
theorem eq_item {A : Around} {pins : List (Addr × Obj)} {σ : L2.St} {H : Hp} {s : Shared} {a dx : Addr} {fs : List (PySem.Str × V)} {y : V} {u : Value} (m : OwnM X CX n C "__eq__" f fd ps sp E) (ob : OffB X.K C) (sb : Sub X n A) (hu : A.units + 10 < cLine) (I : Inv X pins σ H s) (ha : H a = some (.ins C dx fs)) (ry : RelV y u) (bk : Bk H y)
    (h : sp [.ref a, y] H (fun v H' => v = .bl false ∧ Same H H') E) : wpAny (model X.prog X.w) A (eqBool u (.ref a)) (fun b s' => b = false ∧ ∃ H', Inv X pins σ H' s' ∧ Same H H') X.xe s := by
  obtain ⟨od, J⟩ := ins_inst I ha
  have ry0 := ry
  cases bk with
  | str x =>
    obtain ⟨t, rfl⟩ := (show ∃ t, u = Value.str x t from ry)
    exact eq_core m sb hu I ha ry0 (typeIs_str s x t) rfl rfl (fun _ _ z => nomatch z) ob.str PySem.F.slot_str_eq PySem.F.entry_str_eq (PySem.F.args_str_eq_2 _ _) (decl_str J rfl) h
  | int i =>
    obtain ⟨t, rfl⟩ := (show ∃ t, u = Value.int i t from ry)
    exact eq_core m sb hu I ha ry0 (typeIs_int s i t) rfl rfl (fun _ _ z => nomatch z) ob.int PySem.F.slot_int_eq PySem.F.entry_int_eq (PySem.F.args_int_eq_2 _ _) (decl_int J rfl) h
  | non =>
    obtain rfl : u = Value.none := ry
    exact eq_core m sb hu I ha ry0 rfl rfl rfl (fun _ _ z => nomatch z) ob.non PySem.F.slot_NoneType_eq PySem.F.entry_NoneType_eq (PySem.F.args_NoneType_eq_2 _ _) decl_none h
  | @tup t xs e =>
    obtain rfl : u = Value.ref t := ry
    obtain ⟨_, its, _, o, ho, hc, _⟩ := (show ObjOk X.prog X.w H s.heap t (.tup xs) from I.hok t _ e)
    have hne : t ≠ a := ne_of e ha (fun z => nomatch z)
    exact eq_core m sb hu I ha ry0 ⟨o, ho, hc⟩ (by simpa using hne) rfl (fun _ _ z => nomatch z) ob.tup PySem.F.slot_tuple_eq PySem.F.entry_tuple_eq (PySem.F.args_tuple_eq_2 _ _) (decl_tup I.kIn J ob.tup) h
  | @dict d kvs e =>
    obtain rfl : u = Value.ref d := ry
    obtain ⟨_, _, vs, _, hd⟩ := dk_of I.hok e
    have hne : d ≠ a := ne_of e ha (fun z => nomatch z)
    exact eq_core m sb hu I ha ry0 hd.typeIs (by simpa using hne) rfl (fun _ _ z => nomatch z) ob.dict PySem.F.slot_dict_eq PySem.F.entry_dict_eq (PySem.F.args_dict_eq_2 _ _) (decl_dict I.kIn J ob.dict hd.typeIs) h
def rNotInO (C : Addr) (sp : Sp) (E : XK) : R2 := fun x y H Q => ∃ a dx fs l ys, x = .ref a ∧ H a = some (.ins C dx fs) ∧ y = .ref l ∧ H l = some (.lst ys) ∧ (∀ y ∈ ys, Bk H y) ∧ (∀ y ∈ ys, ∀ H', Same H H' → sp [.ref a, y] H' (fun v H'' => v = .bl false ∧ Same H' H'') E) ∧ ∀ H', Same H H' → Q (.bl true) H'
theorem op_notInO (m : OwnM X CX n C "__eq__" f fd ps sp E) (ob : OffB X.K C) (hr : Room (n + 1) X.A) : OpR X (compareOp .NotIn) (rNotInO C sp E) := by
  intro pins s σ H x y v u Q I rx ry h
  obtain ⟨a, dx, fs, l, ys, rfl, ha, rfl, hl, bk, hs, q⟩ := h
  obtain rfl : v = Value.ref a := rx
  obtain rfl : u = Value.ref l := ry
  refine notIn_no (N := ys.length) (Jv := fun s' => ∃ H', Inv X pins σ H' s' ∧ Same H H') (fun s' ⟨H', I', s1⟩ => ?_) ⟨H, I, Same.refl _⟩ fun s' ⟨H', I', s1⟩ => ⟨.bl true, H', I', rfl, q H' s1⟩
  obtain ⟨z, its, c, rv, e⟩ := (show ObjOk X.prog X.w H' s'.heap l (.lst ys) from I'.hok l _ (s1 _ _ hl))
  have hlen := rv.length
  refine ⟨its.toArray, c, none, #[], e, by rw [List.size_toArray]; exact hlen.symm, fun w hw => ?_⟩
  have hw' : w ∈ its := by simpa using hw
  obtain ⟨i, hi, rfl⟩ := List.mem_iff_getElem.mp hw'
  have hyi : ys[i]? = some ys[i] := List.getElem?_eq_getElem (by omega)
  have ryi : RelV ys[i] its[i] := by
    obtain ⟨u', h2, h3⟩ := Vals.get rv hyi
    rw [List.getElem?_eq_getElem hi] at h2
    obtain rfl := Option.some.inj h2
    exact h3
  have hm : ys[i] ∈ ys := List.getElem_mem _
  refine wpAny_mono (eq_item m ob ⟨hr.in1, rfl⟩ (by have := hr.in1.units; omega) I' (s1 _ _ ha) ryi ((bk _ hm).same s1) (hs _ hm H' s1)) (fun b s2 ⟨e1, H2, I2, s2'⟩ => ⟨e1, H2, I2, s1.trans s2'⟩) fun _ _ z => z
end
end R0
/-! The text by places; is_name. -/
namespace M46
open PySem PySem.Spec PyProof.Rows L2 R0 K1

def top (i : Nat) : Stmt := PySem.Challenge.pw_letterrules_k46_markings_by_kinds.main.body.getD i (.Pass ⟨0, 0, 0, 0⟩)
abbrev sIsName : Stmt := top 7
abbrev sCheck : Stmt := top 10
abbrev sKept : Stmt := top 11
abbrev sLess : Stmt := top 12
abbrev sInit : Stmt := inClass (top 13) 0
abbrev sOf : Stmt := inClass (top 13) 1
abbrev sEven : Stmt := inClass (top 13) 2
abbrev sOther : Stmt := inClass (top 13) 3
abbrev sKinds : Stmt := inClass (top 13) 4
abbrev sWordOf : Stmt := inClass (top 13) 5
abbrev sWith : Stmt := inClass (top 13) 6
abbrev sAtMost : Stmt := inClass (top 13) 7
abbrev sGet : Stmt := inClass (top 13) 8
abbrev sLen : Stmt := inClass (top 13) 11
abbrev sIter : Stmt := inClass (top 13) 12
abbrev sEq : Stmt := inClass (top 13) 13
abbrev sStr : Stmt := inClass (top 13) 14
abbrev sTaken : Stmt := inClass (top 14) 0
abbrev sDice : Stmt := top 17
abbrev sPull : Stmt := top 18
abbrev sPick : Stmt := top 19
abbrev sNames : Stmt := top 20
abbrev sWords : Stmt := top 21
abbrev sTold : Stmt := top 22
abbrev sText : Stmt := top 23
abbrev sRight : Stmt := top 24
abbrev sAll : Stmt := top 25
abbrev sChanged : Stmt := top 26
abbrev sTurn : Stmt := top 27
abbrev sLaw : Stmt := top 28
/-- built-in names that the top leaves alone -/
structure Bare (mg : PySem.Str → Option Value) : Prop where
  int : mg "int" = none
  abs : mg "abs" = none
  max : mg "max" = none
  min : mg "min" = none
  len : mg "len" = none
  rng : mg "range" = none
  isi : mg "isinstance" = none
  str : mg "str" = none
  tup : mg "tuple" = none
  bool : mg "bool" = none
  all : mg "all" = none
  any : mg "any" = none
  dict : mg "dict" = none
  list : mg "list" = none
  sort : mg "sorted" = none
  iter : mg "iter" = none
def w0 : S := "nothing"
def w1 : S := "numbers"
def w2 : S := "notes"
def W3 : List S := [w0, w1, w2]
def oth : S := "other"
/-- names of the top that others use -/
structure Cst (K : PySem.W.Frag) (mg : PySem.Str → Option Value) : Prop where
  ln : ∃ t, mg "LONGEST_NAME" = some (.int 8 t)
  ws : ∃ a, mg "WORDS" = some (.ref a) ∧ (∃ o, K.lookup a = some o ∧ o.cls = .type "tuple" ∧ o.dict = none) ∧ ∀ H, SqT K H a (W3.map V.str)
theorem unlock_eq {H : Hp} {d D : Addr} {f u o : HO} (hd : H d = some u) (hD : H D = none) : upd (upd (upd H d f) D o) d u = upd H D o := by
  have hne : d ≠ D := ne_of_none hd hD
  funext b
  by_cases e : b = d
  · rw [e, upd_same, upd_ne hne, hd]
  · rw [upd_ne e]
    by_cases e2 : b = D
    · rw [e2, upd_same, upd_same]
    · rw [upd_ne e2, upd_ne e2, upd_ne e]
theorem same_upd {H : Hp} {D : Addr} {o : HO} (h : H D = none) : Same H (upd H D o) := fun b u e => by rw [upd_ne (ne_of_none e h)]; exact e
def spIsName : Sp := fun vs H Q _ => ∃ x : S, vs = [.str x] ∧ x.length ≤ 1000 ∧ Q (.bl (nm x)) H
section
variable {P : Program} {w : World} {K : PySem.W.Frag} {mg : PySem.Str → Option Value} {base : Heap}
theorem scIsName : FnScope ["value"] ["value"] (defScope sIsName) := ⟨rfl, rfl, rfl, by decide +kernel, rfl, by decide +kernel, by decide +kernel⟩
theorem ok_is_name {f : Addr} {fd : FuncData} (F : Fun K "is_name" "is_name" sIsName f fd) (T : Bare mg) (C : Cst K mg) : FnOk P w K mg base CX0 1 f fd ["value"] spIsName := by
  refine F.ok scIsName (fun vs H Q E h => ?_) (fun cdv A outer s H vs Q E hr h => ?_)
  · obtain ⟨x, rfl, _⟩ := h
    rfl
  · obtain ⟨x, rfl, hx, q⟩ := h
    obtain ⟨tl, ml⟩ := C.ln
    refine ⟨_, (pss_cons (ps_if (PW.pt (pw_or (pt_not (pt_val (pe_callB call_isi (by rfl) T.isi (by decide +kernel) (pa_cons (pv 0) (pa_cons (pe_bltn (v := .ty "str") (by rfl) T.str (by decide +kernel) rfl) pa_nil))))) (pw_or1 (pt_not (pt_chain op_le op_le pe_int (pe_callB call_len_str (by rfl) T.len (by decide +kernel) (pa_cons (pv 0) pa_nil)) (pe_glob (v := .int 8) rfl ml ⟨_, rfl⟩)))))) (pss_one (ps_ret pe_bl)) pss_nil)
      (pss_one (ps_ret (pe_and (pe_bm0 PySem.F.plainAttrs_str PySem.F.slot_str_isascii PySem.F.type_str_isascii mt_isascii (pv 0)) (pe_and (pe_bm0 PySem.F.plainAttrs_str PySem.F.slot_str_isalpha PySem.F.type_str_isalpha mt_isalpha (pv 0)) (pe_one (pe_bm0 PySem.F.plainAttrs_str PySem.F.slot_str_islower PySem.F.type_str_islower mt_islower (pv 0)))))))), ?_⟩
    refine ⟨_, rfl, _, .ty "str", _, .type "str", true, rfl, .ty _, .base (.str x), kit_ty (by decide +kernel), true, rfl, ?_⟩
    refine ⟨_, rfl, x, rfl, (by rw [sizeLine_eq]; omega), _, _, rfl, rfl, _, rfl, ?_⟩
    refine ite2 (fun h1 => ?_) (fun h1 => ?_)
    · refine ⟨_, _, rfl, rfl, _, rfl, ?_⟩
      have h1' : 1 ≤ x.length := by have := of_decide_eq_true h1; omega
      by_cases h2 : x.length ≤ 8
      · have e : decide ((x.length : Int) ≤ 8) = true := decide_eq_true (by omega)
        rw [e]
        refine ⟨_, rfl, rfl, x, rfl, rfl, trivial, _, rfl, ?_⟩
        have z := nm_prog h1' h2
        cases ha : Txt.isascii x with
        | false => rw [ha] at z; show Q (.bl false) H; rw [show nm x = false from z] at q; exact q
        | true =>
          refine ⟨_, rfl, rfl, x, rfl, rfl, trivial, _, rfl, ?_⟩
          cases hb : Txt.isalpha x with
          | false => rw [ha, hb] at z; show Q (.bl false) H; rw [show nm x = false from z] at q; exact q
          | true =>
            refine ⟨_, rfl, rfl, x, rfl, rfl, trivial, ?_⟩
            rw [ha, hb] at z
            rw [show nm x = Txt.islower x from z] at q
            exact q
      · have e : decide ((x.length : Int) ≤ 8) = false := decide_eq_false (by omega)
        rw [e]
        have z : nm x = false := by unfold nm; rw [decide_eq_false h2, Bool.false_and, Bool.and_false]
        rw [z] at q
        exact q
    · have h1' : ¬ 1 ≤ x.length := by have := of_decide_eq_false (Bool.eq_false_iff.mpr h1); omega
      have z : nm x = false := by unfold nm; rw [decide_eq_false h1', Bool.false_and]
      rw [z] at q
      exact ⟨_, rfl, q⟩
end
end M46
/-! _check_words. -/
namespace M46
open PySem PySem.Spec PyProof.Rows L2 R0 K1

/-- words by kinds that are fine -/
structure Wok (ws : List (S × S)) : Prop where
  nm : ∀ k ∈ ws.map (·.1), nm k = true
  vs : ∀ v ∈ ws.map (·.2), v ∈ W3
  nd : (ws.map (·.1)).Nodup
  len : ws.length ≤ 40
theorem nm_len {x : S} (h : nm x = true) : x.length ≤ 8 := by
  unfold nm at h
  rw [Bool.and_eq_true, Bool.and_eq_true] at h
  exact of_decide_eq_true h.2.1
theorem inV_w3 {v : S} (h : v ∈ W3) : inV (.str v) (W3.map V.str) = true := by
  unfold inV
  rw [List.any_map, List.any_eq_true]
  exact ⟨v, h, by simp [Function.comp, eqV]⟩
def spCheck : Sp := fun vs H Q _ => ∃ (d : Addr) (ws : List (S × S)), vs = [.ref d] ∧ H d = some (.dK (wd ws)) ∧ Wok ws ∧ ∀ H', Same H H' → Q .non H'
theorem all_true (n : List V) : (n.filterMap fun _ => some (V.bl true)) = (n.map fun _ => true).map V.bl := by
  induction n with
  | nil => rfl
  | cons a n ih =>
    show V.bl true :: (n.filterMap fun _ => some (V.bl true)) = _
    rw [ih]
    rfl
theorem all_id (n : List V) : (n.map fun _ => true).all id = true := by
  rw [List.all_map]
  exact List.all_eq_true.mpr fun _ _ => rfl
section
variable {P : Program} {w : World} {K : PySem.W.Frag} {mg : PySem.Str → Option Value} {base : Heap}
theorem scCheck : FnScope ["words", "kind", "word"] ["words"] (defScope sCheck) := ⟨rfl, rfl, rfl, by decide +kernel, rfl, by decide +kernel, by decide +kernel⟩
theorem ok_check {f fN : Addr} {fd fdN : FuncData} (F : Fun K "_check_words" "_check_words" sCheck f fd) (T : Bare mg) (C : Cst K mg) (FN : Fun K "is_name" "is_name" sIsName fN fdN) (bN : Binds K fdN ["value"] []) (mN : mg "is_name" = some (.ref fN)) : FnOk P w K mg base CX0 2 f fd ["words"] spCheck := by
  have GN : FnOk P w K mg base CX0 1 fN fdN ["value"] spIsName := ok_is_name FN T C
  refine F.ok scCheck (fun vs H Q E h => ?_) (fun cdv A outer s H vs Q E hr h => ?_)
  · obtain ⟨d, ws, rfl, _⟩ := h
    rfl
  · obtain ⟨d, ws, rfl, hd, ok, q⟩ := h
    obtain ⟨aW, mW, kW, hW⟩ := C.ws
    refine ⟨_, (pss_cons (ps_if (PW.pt (pw_or (pt_not (pt_val (pe_callB call_isi (by rfl) T.isi (by decide +kernel) (pa_cons (pv 0) (pa_cons (pe_bltn (v := .ty "dict") (by rfl) T.dict (by decide +kernel) rfl) pa_nil))))) (pw_or1 (pt_not (pt_val (pe_callB (cr_all rfl) (by rfl) T.all (by decide +kernel) (pa_cons (pe_lock (pe_lc (own := [("kind", 1)]) (g := gName 1) (tt := tYes) rfl scCheck.nd (pi_keys (pv 0)) (blkOk_by (own := [("kind", 1)]) (N := ["words", "kind", "word"]) (sc := defScope sCheck) (by decide +kernel)) (fun _ _ _ _ _ => pg_name (i := 1) scCheck.nd rfl (Or.inl rfl)) (fun _ _ _ _ _ => pts_nil) (fun _ _ _ _ _ => (pe_call GN hr (by rfl) mN FN.kp bN .nil pass0 (pa_cons (pv 1) pa_nil))))) pa_nil))))))) (pss_one ps_never) pss_nil)
      (pss_one (ps_if (pt_not (pt_val (pe_callB (cr_all rfl) (by rfl) T.all (by decide +kernel) (pa_cons (pe_lock (pe_lc (own := [("word", 2)]) (g := gName 2) (tt := tYes) rfl scCheck.nd (pi_values (pv 0)) (blkOk_by (own := [("word", 2)]) (N := ["words", "kind", "word"]) (sc := defScope sCheck) (by decide +kernel)) (fun _ _ _ _ _ => pg_name (i := 2) scCheck.nd rfl (Or.inl rfl)) (fun _ _ _ _ _ => pts_nil) (fun _ _ _ _ _ => (pe_cmpR (r := rIn K false) (by exact op_in_seq) (pv 2) (pe_glob (v := .ref aW) rfl mW rfl) (by rfl))))) pa_nil)))) (pss_one ps_never) pss_nil))), ?_⟩
    refine ⟨_, rfl, _, .ty "dict", _, .type "dict", true, rfl, .ty _, .base (.dK hd), kit_ty (by decide +kernel), true, rfl, ?_⟩
    have hz : ((wd ws).map fun kv => kV kv.1).length ≤ 1000 := by rw [List.length_map, wd_len]; have := ok.len; omega
    have hz2 : ((wd ws).map (·.2)).length ≤ 1000 := by rw [List.length_map, wd_len]; have := ok.len; omega
    refine ⟨d, _, hd, trivial, fun od => ⟨_, rfl, d, od, rfl, .inl ⟨wd ws, upd_same, fun D n0 => ?_⟩⟩⟩
    have hdD : d ≠ D := ne_of_none upd_same n0
    have n0' : H D = none := by rw [upd_ne hdD.symm] at n0; exact n0
    refine lc_ex wk_keys (fun _ => some (V.bl true)) (fun ys => by rw [upd_ne hdD, upd_same]) hz (fun i x ys R N hx hR hN => ⟨rfl, ?_⟩) ?_
    · obtain ⟨k, v, hk, rfl⟩ : ∃ k v, (k, v) ∈ ws ∧ x = .str k := by
        unfold wd at hx
        rw [List.map_map, List.getElem?_map] at hx
        cases e : ws[i]? with
        | none => rw [e] at hx; cases hx
        | some p =>
          rw [e] at hx
          obtain rfl := Option.some.inj hx
          exact ⟨p.1, p.2, List.mem_of_getElem? e, rfl⟩
      have hn := ok.nm k (List.mem_map.mpr ⟨_, hk, rfl⟩)
      refine ⟨_, rfl, k, rfl, by have := nm_len hn; omega, ?_⟩
      rw [hn]
      exact hR _ rfl
    · refine ⟨by rw [upd_ne hdD, upd_same], ?_⟩
      rw [unlock_eq hd n0']
      refine ⟨D, _, rfl, SqL.of (upd_same.trans (by rw [all_true])), ?_⟩
      rw [all_id]
      refine ⟨true, rfl, ?_⟩
      have hd1 : (upd H D (.lst (((wd ws).map fun kv => kV kv.1).filterMap fun _ => some (V.bl true)))) d = some (.dK (wd ws)) := by rw [upd_ne hdD]; exact hd
      have s1 : Same H (upd H D (.lst (((wd ws).map fun kv => kV kv.1).filterMap fun _ => some (V.bl true)))) := same_upd n0'
      generalize upd H D (.lst (((wd ws).map fun kv => kV kv.1).filterMap fun _ => some (V.bl true))) = G at hd1 s1 ⊢
      refine ⟨d, _, hd1, trivial, fun od => ⟨_, rfl, d, od, _, rfl, upd_same, fun D2 m0 => ?_⟩⟩
      have hdD2 : d ≠ D2 := ne_of_none upd_same m0
      have m0' : G D2 = none := by rw [upd_ne hdD2.symm] at m0; exact m0
      refine lc_ex wk_vals (fun _ => some (V.bl true)) (fun ys => by rw [upd_ne hdD2, upd_same]) hz2 (fun i x ys R N hx hR hN => ⟨rfl, ?_⟩) ?_
      · obtain ⟨k, v, hk, rfl⟩ : ∃ k v, (k, v) ∈ ws ∧ x = .str v := by
          unfold wd at hx
          rw [List.map_map, List.getElem?_map] at hx
          cases e : ws[i]? with
          | none => rw [e] at hx; cases hx
          | some p =>
            rw [e] at hx
            obtain rfl := Option.some.inj hx
            exact ⟨p.1, p.2, List.mem_of_getElem? e, rfl⟩
        have hn := inV_w3 (ok.vs v (List.mem_map.mpr ⟨_, hk, rfl⟩))
        refine ⟨_, rfl, aW, _, rfl, .inr (hW _), rfl, flat_strs _, ?_⟩
        show R (.bl (inV (.str v) (W3.map V.str))) _
        rw [hn]
        exact hR _ rfl
      · refine ⟨by rw [upd_ne hdD2, upd_same], ?_⟩
        rw [unlock_eq hd1 m0']
        refine ⟨D2, _, rfl, SqL.of (upd_same.trans (by rw [all_true])), ?_⟩
        rw [all_id]
        exact ⟨true, rfl, q _ (s1.trans (same_upd m0'))⟩
end
end M46
/-! _kept_words. -/
namespace M46
open PySem PySem.Spec PyProof.Rows L2 R0 K1

/-- the word of what has none of its own -/
def rest (ws : List (S × S)) : S := gw ws w0 oth
def spKept : Sp := fun vs H Q _ => ∃ (d : Addr) (ws : List (S × S)), vs = [.ref d] ∧ H d = some (.dK (wd ws)) ∧ Wok ws ∧
  ∀ (H' : Hp) (q t : Addr) (ys : List S), Same H H' → H q = none → ys.Perm (ws.map (·.1)) → sortedS ys = true → H' q = some (.dK (wd (kept ys (gw ws (rest ws)) (rest ws)))) → H' t = some (.tup [.ref q, .str (rest ws)]) → Q (.ref t) H'
theorem fm_kept {f : S → S} {r : S} : ∀ {ys : List S}, ((ys.map V.str).filterMap fun x => match x with | .str k => if f k ≠ r then some (k, f k) else none | _ => none) = kept ys f r
  | [] => rfl
  | y :: ys => by
    unfold kept keep
    rw [List.map_cons]
    by_cases h : f y ≠ r
    · rw [List.filterMap_cons_some (b := (y, f y)) (by show (if f y ≠ r then some (y, f y) else none) = _; rw [if_pos h]), List.filter_cons_of_pos (by simpa using h), List.map_cons, fm_kept]
      rfl
    · rw [List.filterMap_cons_none (by show (if f y ≠ r then some (y, f y) else none) = _; rw [if_neg h]), List.filter_cons_of_neg (by simpa using h), fm_kept]
      rfl
section
variable {P : Program} {w : World} {K : PySem.W.Frag} {mg : PySem.Str → Option Value} {base : Heap}
theorem scKept : FnScope ["words", "other", "kind"] ["words"] (defScope sKept) := ⟨rfl, rfl, rfl, by decide +kernel, rfl, by decide +kernel, by decide +kernel⟩
theorem ok_kept {f fN fC : Addr} {fd fdN fdC : FuncData} (F : Fun K "_kept_words" "_kept_words" sKept f fd) (T : Bare mg) (C : Cst K mg) (FN : Fun K "is_name" "is_name" sIsName fN fdN) (bN : Binds K fdN ["value"] []) (mN : mg "is_name" = some (.ref fN))
    (FC : Fun K "_check_words" "_check_words" sCheck fC fdC) (bC : Binds K fdC ["words"] []) (mC : mg "_check_words" = some (.ref fC)) : FnOk P w K mg base CX0 3 f fd ["words"] spKept := by
  have GC : FnOk P w K mg base CX0 2 fC fdC ["words"] spCheck := ok_check FC T C FN bN mN
  refine F.ok scKept (fun vs H Q E h => ?_) (fun cdv A outer s H vs Q E hr h => ?_)
  · obtain ⟨d, ws, rfl, _⟩ := h
    rfl
  · obtain ⟨d, ws, rfl, hd, ok, q⟩ := h
    obtain ⟨aW, mW, kW, hW⟩ := C.ws
    have hr1 : Room 2 _ := hr
    have hu := hu_of hr
    refine ⟨_, (pss_cons (ps_expr (pe_call GC hr1 (by rfl) mC FC.kp bC .nil pass0 (pa_cons (pv 0) pa_nil)))
      (pss_cons (ps_set (i := 1) scKept.nd rfl (Or.inr rfl) (pe_dget2 hu (pv 0) pe_str (pe_ix ix_tup (pe_glob (v := .ref aW) rfl mW rfl) pe_int (fun _ _ => rfl)) ⟨rfl, rfl, rfl, rfl⟩))
      (pss_one (ps_ret (pe_tup (pa_cons (pe_dc (own := [("kind", 2)]) (g := gName 2) rfl scKept.nd (pi_list (pe_callB (R0.call_sortedD rfl) (by rfl) T.sort (by decide +kernel) (pa_cons (pv 0) pa_nil))) (blkOk_by (own := [("kind", 2)]) (N := ["words", "other", "kind"]) (sc := defScope sKept) (by decide +kernel)) (fun _ _ _ _ _ => pg_name (i := 2) scKept.nd rfl (Or.inl rfl)) (fun _ _ _ _ _ => (pts_one (pt_cmpR (r := rNe) (by exact op_ne) (pe_dget hu (pv 0) (pv 2) (fun _ _ => rfl)) (pv 1) (nomark _)))) (fun _ _ _ _ _ => (pv 2)) (fun _ _ _ _ _ => (pe_dget hu (pv 0) (pv 2) (fun _ _ => rfl)))) (pa_cons (pv 1) pa_nil))))))), ?_⟩
    refine ⟨_, rfl, d, ws, rfl, hd, ok, fun G sG => ?_⟩
    have hdG := sG _ _ hd
    refine ⟨_, rfl, d, rfl, .inl ⟨_, .inl hdG⟩, aW, _, _, .str w0, rfl, rfl, hW _, rfl, _, DGet.k (k := Sum.inr oth) hdG, ?_⟩
    rw [val_gw]
    show _
    refine ⟨_, rfl, d, ws, rfl, .inl hdG, by have := ok.len; omega, fun ys p py sy hp => ⟨p, rfl, ⟨_, SqL.of upd_same⟩, fun D n0 => ?_⟩⟩
    have hpD : p ≠ D := ne_of_none upd_same n0
    have hdp : d ≠ p := ne_of_none hdG hp
    have hD0 : G D = none := by rw [upd_ne hpD.symm] at n0; exact n0
    have hdD : d ≠ D := ne_of_none hdG hD0
    have hyl : ys.length = ws.length := by rw [py.length_eq, List.length_map]
    have hyn : ys.Nodup := py.nodup_iff.mpr ok.nd
    refine dc_ex wk_list (fun x => match x with | .str k => if gw ws (rest ws) k ≠ rest ws then some (k, gw ws (rest ws) k) else none | _ => none) (fun zs => SqL.of (by rw [upd_ne hpD, upd_same])) (by rw [List.length_map]; have := ok.len; omega) (by rw [fm_kept, kept_keys]; exact hyn.filter _) (fun i x zs R N hx hR hN => ⟨rfl, ?_⟩) ?_
    · obtain ⟨k, hk, rfl⟩ : ∃ k, k ∈ ys ∧ x = .str k := by
        rw [List.getElem?_map] at hx
        cases e : ys[i]? with
        | none => rw [e] at hx; cases hx
        | some p =>
          rw [e] at hx
          exact ⟨p, List.mem_of_getElem? e, (Option.some.inj hx).symm⟩
      have hkw : k ∈ ws.map (·.1) := py.mem_iff.mp hk
      have hdd : (upd (upd G p (.lst (ys.map V.str))) D (.dK (wd zs))) d = some (.dK (wd ws)) := by rw [upd_ne hdD, upd_ne hdp]; exact hdG
      have hv := val_mem (r := rest ws) hkw
      have hg : DGet (upd (upd G p (.lst (ys.map V.str))) D (.dK (wd zs))) d (.str k) (some (.str (gw ws (rest ws) k))) := by
        rw [← hv]
        exact DGet.k (k := Sum.inr k) hdd
      refine ⟨_, rfl, _, rfl, d, _, rfl, hg, _, rfl, rfl, _, rfl, ?_⟩
      refine ite2 (fun h1 => ?_) (fun h1 => ?_)
      · have hne : gw ws (rest ws) k ≠ rest ws := fun e => by
          rw [e] at h1
          simp at h1
          exact h1 rfl
        exact ⟨_, rfl, _, rfl, _, rfl, d, _, rfl, hg, hR (k, gw ws (rest ws) k) (by show (if gw ws (rest ws) k ≠ rest ws then _ else _) = _; rw [if_pos hne])⟩
      · have he : gw ws (rest ws) k = rest ws := by
          have h2 : decide (V.str (gw ws (rest ws) k) = V.str (rest ws)) = true := by
            cases e : decide (V.str (gw ws (rest ws) k) = V.str (rest ws)) with
            | true => rfl
            | false => exact absurd (by rw [show (gw ws w0 oth) = rest ws from rfl, e]; rfl) h1
          exact V.str.inj (of_decide_eq_true h2)
        exact hN (by show (if gw ws (rest ws) k ≠ rest ws then _ else _) = _; rw [if_neg (fun z => z he)])
    · rw [fm_kept]
      refine ⟨_, rfl, (by show 2 ≤ sizeLine; rw [sizeLine_eq]; decide), fun t ht => ?_⟩
      have htD : D ≠ t := ne_of_none upd_same ht
      refine q _ D t ys (((sG.trans (same_upd hp)).trans (same_upd n0)).trans (same_upd ht)) ?_ py sy (by rw [upd_ne htD]; exact upd_same) upd_same
      cases e : H D with
      | none => rfl
      | some u => rw [sG _ _ e] at hD0; cases hD0
end
end M46
/-! is_less; the two __init__. -/
namespace M46
open PySem PySem.Spec PyProof.Rows L2 R0 K1

def rk (x : S) : Nat := W3.idxOf x
theorem w3_at : ∀ {x : S}, x ∈ W3 → W3[rk x]? = some x ∧ ∀ m, m < rk x → W3[m]? ≠ some x := by
  have h : ∀ x, x ∈ W3 → W3[rk x]? = some x ∧ ((List.range (rk x)).all fun m => decide (W3[m]? ≠ some x)) = true := by
    intro x hx
    have hx' : x = w0 ∨ x = w1 ∨ x = w2 := by simpa [W3] using hx
    rcases hx' with e | e | e
    · subst e; exact ⟨by decide +kernel, by decide +kernel⟩
    · subst e; exact ⟨by decide +kernel, by decide +kernel⟩
    · subst e; exact ⟨by decide +kernel, by decide +kernel⟩
  intro x hx
  refine ⟨(h x hx).1, fun m hm => ?_⟩
  have := List.all_eq_true.mp (h x hx).2 m (List.mem_range.mpr hm)
  exact of_decide_eq_true this
theorem rk_inj {x y : S} (hx : x ∈ W3) (hy : y ∈ W3) (h : rk x = rk y) : x = y := by
  have h1 := (w3_at hx).1
  have h2 := (w3_at hy).1
  rw [h, h2] at h1
  exact (Option.some.inj h1).symm
def spLess : Sp := fun vs H Q _ => ∃ x y : S, vs = [.str x, .str y] ∧ x ∈ W3 ∧ y ∈ W3 ∧ Q (.bl (decide (rk x < rk y))) H
/-- the two attributes -/
def fl (d : Addr) (r : S) : List (S × V) := [("_words", V.ref d), ("_rest", V.str r)]
theorem wr_ : ¬ (("_words" : S) = "_rest") := by decide +kernel
theorem fl_put (d : Addr) (r : S) : putF "_rest" (V.str r) (putF "_words" (V.ref d) []) = fl d r := by
  show (if ("_words" : S) = "_rest" then [(("_words" : S), V.str r)] else (("_words" : S), V.ref d) :: putF "_rest" (V.str r) []) = _
  rw [if_neg wr_]
  rfl
theorem fl_w (d : Addr) (r : S) : (fl d r).lookup ("_words" : S) = some (.ref d) := by
  rw [← fl_put, lookup_putF, if_neg wr_, lookup_putF, if_pos rfl]
theorem fl_r (d : Addr) (r : S) : (fl d r).lookup ("_rest" : S) = some (.str r) := by
  rw [← fl_put, lookup_putF, if_pos rfl]
/-- a marking at a -/
structure MkAt (C : Addr) (H : Hp) (a : Addr) (ws : List (S × S)) (r : S) : Prop where
  ex : ∃ dx d, H a = some (.ins C dx (fl d r)) ∧ H d = some (.dK (wd ws))
theorem MkAt.same {C : Addr} {H H' : Hp} {a : Addr} {ws : List (S × S)} {r : S} (m : MkAt C H a ws r) (s : Same H H') : MkAt C H' a ws r := by
  obtain ⟨dx, d, h1, h2⟩ := m.ex
  exact ⟨dx, d, s _ _ h1, s _ _ h2⟩
abbrev Le (a b : S) : Prop := a.cps.toList ≤ b.cps.toList
/-- the kept words of W, and the word of the others -/
structure Canon (W ws : List (S × S)) (r : S) : Prop where
  r : r = rest W
  ys : ∃ ys : List S, ys.Pairwise Le ∧ ys.Nodup ∧ (∀ k ∈ ys, nm k = true) ∧ ys.length ≤ 45 ∧ (∀ k, k ∉ ys → gw W (rest W) k = rest W) ∧ ws = kept ys (gw W (rest W)) (rest W)
theorem canon_eq {W W' ws ws' : List (S × S)} {r r' : S} (h : Canon W ws r) (h' : Canon W' ws' r') (er : rest W = rest W') (e : ∀ k, gw W (rest W) k = gw W' (rest W) k) : ws = ws' ∧ r = r' := by
  obtain ⟨rfl, ys, s1, n1, _, _, o1, rfl⟩ := h
  obtain ⟨rfl, ys', s2, n2, _, _, o2, rfl⟩ := h'
  rw [← er] at o2 ⊢
  exact ⟨kept_ext s1 s2 n1 n2 e o1 o2, rfl⟩
theorem canon_gw {W ws : List (S × S)} {r : S} (h : Canon W ws r) (k : S) : gw ws r k = gw W (rest W) k := by
  obtain ⟨rfl, ys, s1, n1, _, _, o1, rfl⟩ := h
  exact gw_kept (o1 k)
theorem canon_of {W : List (S × S)} (ok : Wok W) {ys : List S} (p : ys.Perm (W.map (·.1))) (s : sortedS ys = true) : Canon W (kept ys (gw W (rest W)) (rest W)) (rest W) :=
  ⟨rfl, ys, sorted_le s, p.nodup_iff.mpr ok.nd, fun k hk => ok.nm k (p.mem_iff.mp hk), by rw [p.length_eq, List.length_map]; have := ok.len; omega, fun k hk => gw_not fun z => hk (p.mem_iff.mpr z), rfl⟩
structure ClsF (K : PySem.W.Frag) (C : Addr) : Prop where
  cl : Cls K C
  nW : NoAttr K C "_words"
  nR : NoAttr K C "_rest"
/-- a new instance at x gets its attributes -/
def spInit (C : Addr) : Sp := fun vs H Q _ => ∃ (x dx d : Addr) (ks : List (S × S)) (o : S), vs = [.ref x, .str o, .ref d] ∧ H x = some (.ins C dx []) ∧ H d = some (.dK (wd ks)) ∧ Wok (putS ks oth o) ∧
  ∀ (H' : Hp) (ws : List (S × S)) (r : S), (∀ b u, b ≠ x → H b = some u → H' b = some u) → MkAt C H' x ws r → Canon (putS ks oth o) ws r → Q .non H'
def spTaken (C : Addr) : Sp := fun vs H Q _ => ∃ (x dx d : Addr) (ks : List (S × S)), vs = [.ref x, .ref d] ∧ H x = some (.ins C dx []) ∧ H d = some (.dK (wd ks)) ∧ Wok ks ∧
  ∀ (H' : Hp) (ws : List (S × S)) (r : S), (∀ b u, b ≠ x → H b = some u → H' b = some u) → MkAt C H' x ws r → Canon ks ws r → Q .non H'
section
variable {P : Program} {w : World} {K : PySem.W.Frag} {mg : PySem.Str → Option Value} {base : Heap}
theorem scLess : FnScope ["word", "other"] ["word", "other"] (defScope sLess) := ⟨rfl, rfl, rfl, by decide +kernel, rfl, by decide +kernel, by decide +kernel⟩
theorem ok_less {f : Addr} {fd : FuncData} (F : Fun K "is_less" "is_less" sLess f fd) (C : Cst K mg) : FnOk P w K mg base CX0 1 f fd ["word", "other"] spLess := by
  refine F.ok scLess (fun vs H Q E h => ?_) (fun cdv A outer s H vs Q E hr h => ?_)
  · obtain ⟨x, y, rfl, _⟩ := h
    rfl
  · obtain ⟨x, y, rfl, hx, hy, q⟩ := h
    obtain ⟨aW, mW, ⟨oW, k1, k2, k3⟩, hW⟩ := C.ws
    have h1 := w3_at hx
    have h2 := w3_at hy
    refine ⟨_, (pss_one (ps_ret (pe_cmpR op_lt (pe_bm PySem.F.plainAttrs_tuple PySem.F.slot_tuple_index PySem.F.type_tuple_index mt_tup_index (pe_glob (v := .ref aW) rfl mW rfl) (pa_cons (pv 0) pa_nil)) (pe_bm PySem.F.plainAttrs_tuple PySem.F.slot_tuple_index PySem.F.type_tuple_index mt_tup_index (pe_glob (v := .ref aW) rfl mW rfl) (pa_cons (pv 1) pa_nil)) (nomark _)))), ?_⟩
    refine ⟨.inr (.inl ⟨rfl, oW, k1, k2, k3⟩), _, rfl, aW, W3, x, rk x, rfl, rfl, hW _, h1.1, h1.2, .inr (.inl ⟨rfl, oW, k1, k2, k3⟩), _, rfl, aW, W3, y, rk y, rfl, rfl, hW _, h2.1, h2.2, _, _, rfl, rfl, ?_⟩
    have e : decide (((rk x : Nat) : Int) < ((rk y : Nat) : Int)) = decide (rk x < rk y) := by
      rw [Bool.eq_iff_iff, decide_eq_true_eq, decide_eq_true_eq]
      omega
    show Q (.bl (decide (((rk x : Nat) : Int) < ((rk y : Nat) : Int)))) H
    rw [e]
    exact q
theorem mk_done {C : Addr} {H G : Hp} {x dx q t : Addr} {ws : List (S × S)} {r : S} (hx : H x = some (.ins C dx [])) (sG : Same H G) (hq : H q = none) (gq : G q = some (.dK (wd ws))) :
    MkAt C (upd (upd G x (.ins C dx (putF "_words" (V.ref q) []))) x (.ins C dx (putF "_rest" (V.str r) (putF "_words" (V.ref q) [])))) x ws r ∧ ∀ b u, b ≠ x → H b = some u → (upd (upd G x (.ins C dx (putF "_words" (V.ref q) []))) x (.ins C dx (putF "_rest" (V.str r) (putF "_words" (V.ref q) [])))) b = some u := by
  have hqx : x ≠ q := ne_of_none hx hq
  rw [upd_upd, fl_put]
  exact ⟨⟨dx, q, upd_same, by rw [upd_ne hqx.symm]; exact gq⟩, fun b u hb e => by rw [upd_ne hb]; exact sG _ _ e⟩
theorem scTaken : FnScope ["self", "words"] ["self", "words"] (defScope sTaken) := ⟨rfl, rfl, rfl, by decide +kernel, rfl, by decide +kernel, by decide +kernel⟩
theorem ok_taken {f fK : Addr} {fd fdK : FuncData} {C : Addr} (F : Fun K "__init__" "TakenMarking.__init__" sTaken f fd) (cf : ClsF K C) (FK : Fun K "_kept_words" "_kept_words" sKept fK fdK) (bK : Binds K fdK ["words"] []) (mK : mg "_kept_words" = some (.ref fK)) (GK : FnOk P w K mg base CX0 3 fK fdK ["words"] spKept) : FnOk P w K mg base CX0 4 f fd ["self", "words"] (spTaken C) := by
  refine F.ok scTaken (fun vs H Q E h => ?_) (fun cdv A outer s H vs Q E hr h => ?_)
  · obtain ⟨x, dx, d, ks, rfl, _⟩ := h
    rfl
  · obtain ⟨x, dx, d, ks, rfl, hx, hd, ok, q⟩ := h
    refine ⟨_, (pss_one (ps_asg (pe_call GK hr (by rfl) mK FK.kp bK .nil pass0 (pa_cons (pv 1) pa_nil)) (pg_tup (by rfl) (pgs_cons (pg_att (pv 0)) (pgs_cons (pg_att (pv 0)) pgs_nil))))), ?_⟩
    refine ⟨_, rfl, d, ks, rfl, hd, ok, fun G qd t ys sG nq py sy gq gt => ?_⟩
    have gx := sG _ _ hx
    refine ⟨t, _, rfl, .inl (.inl gt), rfl, _, _, rfl, _, rfl, x, C, dx, [], rfl, gx, cf.cl, cf.nW, Nat.zero_lt_succ _, _, _, rfl, _, rfl, x, C, dx, _, rfl, upd_same, cf.cl, cf.nR, (by show 1 < 1000; decide), rfl, ?_⟩
    have m := mk_done (r := rest ks) (t := t) hx sG nq gq
    exact q _ _ _ m.2 m.1 (canon_of ok py sy)
theorem wd_nmK (ws : List (S × S)) : nmK (ws.map fun x => (x.1, V.str x.2)) = wd ws := by
  unfold nmK wd
  rw [List.map_map]
  rfl
theorem scInit : FnScope ["self", "other", "kinds"] ["self", "other", "kinds"] (defScope sInit) := ⟨rfl, rfl, rfl, by decide +kernel, rfl, by decide +kernel, by decide +kernel⟩
theorem len_put_ge {k v : S} {ws : List (S × S)} : ws.length ≤ (putS ws k v).length := by
  have h := congrArg List.length (keys_put (k := k) (v := v) (ws := ws))
  rw [List.length_map] at h
  rw [h]
  split
  · rw [List.length_map]; exact Nat.le_refl _
  · rw [List.length_append, List.length_map]; omega
theorem nodup_of_put {k v : S} {ws : List (S × S)} (h : ((putS ws k v).map (·.1)).Nodup) : (ws.map (·.1)).Nodup := by
  rw [keys_put] at h
  split at h
  · exact h
  · exact (List.nodup_append.mp h).1
theorem merge_put {ks : List (S × S)} {k v : S} (h : (ks.map (·.1)).Nodup) : mergeK (mergeK [] (wd ks)) (mergeK [] (wd [(k, v)])) = wd (putS ks k v) := by
  rw [merge_nil h, merge_nil (by simp)]
  exact put_wd
def kwI : Arg := match (defArgs sInit).kwarg with
  | some a => a
  | none => ⟨"", none, ⟨0, 0, 0, 0⟩⟩
/-- __init__, by its keywords -/
theorem ok_init {f fK C : Addr} {fd fdK : FuncData} (F : FunD K "__init__" "Marking.__init__" (defArgs sInit) (defBody sInit) (defScope sInit) [] [("other", V.str w0)] f fd) (cf : ClsF K C) (FK : Fun K "_kept_words" "_kept_words" sKept fK fdK) (bK : Binds K fdK ["words"] []) (mK : mg "_kept_words" = some (.ref fK)) (GK : FnOk P w K mg base CX0 3 fK fdK ["words"] spKept) : FnW P w K mg base CX0 4 f (spW "self" "other" (V.str w0) (spInit C)) := by
  refine fn_kw1 (more := kwI) F (show FnScope ["self", "other", "kinds"] ["self", "other", kwI.arg] (defScope sInit) from scInit) rfl rfl rfl rfl rfl (by decide +kernel) StX.cxUp_none (fun cdv A outer s H vs Q E hr h => ?_)
  obtain ⟨x, dx, d, ks, o, rfl, hx, hd, ok, q⟩ := h
  refine ⟨_, (pss_one (ps_asg (pe_call GK hr (by rfl) mK FK.kp bK .nil pass0 (pa_cons (pe_dd (pv 2) (pps_cons pe_str (pv 1) pps_nil) (by rfl) (by rfl) (fun z => by cases z) (by decide)) pa_nil)) (pg_tup (by rfl) (pgs_cons (pg_att (pv 0)) (pgs_cons (pg_att (pv 0)) pgs_nil))))), ?_⟩
  have nks := nodup_of_put ok.nd
  have lks : ks.length ≤ 40 := Nat.le_trans len_put_ge ok.len
  refine fun p hp => ⟨_, rfl, d, wd ks, rfl, .inl (by rw [upd_ne (ne_of_none hd hp)]; exact hd), ne_of_none hd hp, upd_same, by rw [wd_len]; omega, fun e he => ?_⟩
  have hpe : p ≠ e := ne_of_none upd_same he
  have he0 : H e = none := by rw [upd_upd, upd_ne hpe.symm] at he; exact he
  refine ⟨_, rfl, by rw [upd_ne hpe, upd_same], upd_same, wd [(oth, o)], rfl, (by rw [wd_len]; exact Nat.succ_le_succ (Nat.zero_le _)), ?_⟩
  rw [merge_put nks]
  have s3 : Same H (upd (upd (upd (upd (upd H p (.dK [])) p (.dK (mergeK [] (wd ks)))) e (.dK [])) e (.dK (mergeK [] (wd [(oth, o)])))) p (.dK (wd (putS ks oth o)))) := fun b u eb => by
    have b1 : b ≠ p := ne_of_none eb hp
    have b2 : b ≠ e := ne_of_none eb he0
    rw [upd_ne b1, upd_ne b2, upd_ne b2, upd_ne b1, upd_ne b1]
    exact eb
  refine ⟨p, putS ks oth o, rfl, upd_same, ok, fun G qd t ys sG nq py sy gq gt => ?_⟩
  have gx := sG _ _ (s3 _ _ hx)
  refine ⟨t, _, rfl, .inl (.inl gt), rfl, _, _, rfl, _, rfl, x, C, dx, [], rfl, gx, cf.cl, cf.nW, Nat.zero_lt_succ _, _, _, rfl, _, rfl, x, C, dx, _, rfl, upd_same, cf.cl, cf.nR, (by show 1 < 1000; decide), rfl, ?_⟩
  have nq0 : H qd = none := by
    cases z : H qd with
    | none => rfl
    | some u => rw [s3 _ _ z] at nq; cases nq
  have m := mk_done (r := rest (putS ks oth o)) (t := t) hx (s3.trans sG) nq0 gq
  exact q _ _ _ m.2 m.1 (canon_of ok py sy)
end
end M46
/-! What a marking tells. -/
namespace M46
open PySem PySem.Spec PyProof.Rows L2 R0 K1

theorem call_lenR {X : Cx} : CallR X (.builtin "len") (fun xs H Q => ∃ a kvs, xs = [V.ref a] ∧ Rd H a (.dK kvs) ∧ Q (.int kvs.length) H) := by
  intro pins s σ H xs us Q I r h
  obtain ⟨a, kvs, rfl, ha, q⟩ := h
  obtain ⟨u, rfl, ru⟩ := vals1 r
  obtain rfl : u = Value.ref a := ru
  exact d_len I ha fun t s' I' => ⟨.int kvs.length, H, I', ⟨t, rfl⟩, q⟩
theorem wd_keys (ws : List (S × S)) : ((wd ws).map fun kv => kV kv.1) = (ws.map (·.1)).map V.str := by
  unfold wd
  rw [List.map_map, List.map_map]
  rfl
/-- a marking whose words may be locked -/
structure MkR (C : Addr) (H : Hp) (a : Addr) (ws : List (S × S)) (r : S) : Prop where
  ex : ∃ dx d, H a = some (.ins C dx (fl d r)) ∧ Rd H d (.dK (wd ws))
def spOther (C : Addr) : Sp := fun vs H Q _ => ∃ a ws r, vs = [.ref a] ∧ MkAt C H a ws r ∧ Q (.str r) H
def spKinds (C : Addr) : Sp := fun vs H Q _ => ∃ a ws r, vs = [.ref a] ∧ MkAt C H a ws r ∧ ∀ q, H q = none → Q (.ref q) (upd H q (.tup ((ws.map (·.1)).map V.str)))
def spWordOf (C : Addr) : Sp := fun vs H Q _ => ∃ a ws r k, vs = [.ref a, .str k] ∧ MkAt C H a ws r ∧ Q (.str (gw ws r k)) H
def spLen (C : Addr) : Sp := fun vs H Q _ => ∃ a ws r, vs = [.ref a] ∧ MkR C H a ws r ∧ Q (.int (ws.length : Nat)) H
def spIter (C : Addr) : Sp := fun vs H Q _ => ∃ a ws r dx d od, vs = [.ref a] ∧ H a = some (.ins C dx (fl d r)) ∧ H d = some (.frz od (.dK (wd ws))) ∧ ∀ it es ep, H it = none → od.data = .dict es ep → Q (.ref it) (upd H it (KItO d it es.size ep))
def spGet (C : Addr) : Sp := fun vs H Q _ => ∃ a ws r k, vs = [.ref a, .str k] ∧ MkAt C H a ws r ∧ nm k = true ∧ Q (.str (gw ws r k)) H
section
variable {P : Program} {w : World} {K : PySem.W.Frag} {mg : PySem.Str → Option Value} {base : Heap} {C : Addr}
theorem scOther : FnScope ["self"] ["self"] (defScope sOther) := ⟨rfl, rfl, rfl, by decide +kernel, rfl, by decide +kernel, by decide +kernel⟩
theorem ok_other {f : Addr} {fd : FuncData} (F : Fun K "other" "Marking.other" sOther f fd) (cf : ClsF K C) : FnOk P w K mg base CX0 1 f fd ["self"] (spOther C) := by
  refine F.ok scOther (fun vs H Q E h => ?_) (fun cdv A outer s H vs Q E hr h => ?_)
  · obtain ⟨a, ws, r, rfl, _⟩ := h
    rfl
  · obtain ⟨a, ws, r, rfl, ⟨dx, d, ha, hd⟩, q⟩ := h
    refine ⟨_, (pss_one (ps_ret (pe_fld (pv 0) rfl))), ?_⟩
    exact ⟨_, rfl, a, C, dx, _, _, rfl, ha, cf.cl, cf.nR, fl_r _ _, q⟩
theorem scKinds : FnScope ["self"] ["self"] (defScope sKinds) := ⟨rfl, rfl, rfl, by decide +kernel, rfl, by decide +kernel, by decide +kernel⟩
theorem ok_kinds {f : Addr} {fd : FuncData} (F : Fun K "kinds" "Marking.kinds" sKinds f fd) (T : Bare mg) (cf : ClsF K C) : FnOk P w K mg base CX0 1 f fd ["self"] (spKinds C) := by
  refine F.ok scKinds (fun vs H Q E h => ?_) (fun cdv A outer s H vs Q E hr h => ?_)
  · obtain ⟨a, ws, r, rfl, _⟩ := h
    rfl
  · obtain ⟨a, ws, r, rfl, ⟨dx, d, ha, hd⟩, q⟩ := h
    refine ⟨_, (pss_one (ps_ret (pe_callTy (R0.call_tuple_dK rfl) (by rfl) T.tup (by decide +kernel) (pa_cons (pe_fld (pv 0) rfl) pa_nil)))), ?_⟩
    refine ⟨_, rfl, a, C, dx, _, _, rfl, ha, cf.cl, cf.nW, fl_w _ _, d, wd ws, rfl, .inl hd, fun p hp => ?_⟩
    rw [wd_keys]
    exact q p hp
theorem scWordOf : FnScope ["self", "kind"] ["self", "kind"] (defScope sWordOf) := ⟨rfl, rfl, rfl, by decide +kernel, rfl, by decide +kernel, by decide +kernel⟩
theorem ok_wordof {f : Addr} {fd : FuncData} (F : Fun K "word_of" "Marking.word_of" sWordOf f fd) (cf : ClsF K C) : FnOk P w K mg base CX0 1 f fd ["self", "kind"] (spWordOf C) := by
  refine F.ok scWordOf (fun vs H Q E h => ?_) (fun cdv A outer s H vs Q E hr h => ?_)
  · obtain ⟨a, ws, r, k, rfl, _⟩ := h
    rfl
  · obtain ⟨a, ws, r, k, rfl, ⟨dx, d, ha, hd⟩, q⟩ := h
    have hu := hu_of hr
    refine ⟨_, (pss_one (ps_ret (pe_dget2 hu (pe_fld (pv 0) rfl) (pv 1) (pe_fld (pv 0) rfl) ⟨rfl, rfl, rfl, rfl⟩))), ?_⟩
    refine ⟨_, rfl, a, C, dx, _, _, rfl, ha, cf.cl, cf.nW, fl_w _ _, d, rfl, .inl ⟨_, .inl hd⟩, _, rfl, _, rfl, a, C, dx, _, _, rfl, ha, cf.cl, cf.nR, fl_r _ _, _, DGet.k (k := Sum.inr k) hd, ?_⟩
    rw [val_gw]
    exact q
theorem scLen : FnScope ["self"] ["self"] (defScope sLen) := ⟨rfl, rfl, rfl, by decide +kernel, rfl, by decide +kernel, by decide +kernel⟩
theorem ok_len {f : Addr} {fd : FuncData} (F : Fun K "__len__" "Marking.__len__" sLen f fd) (T : Bare mg) (cf : ClsF K C) : FnOk P w K mg base CX0 1 f fd ["self"] (spLen C) := by
  refine F.ok scLen (fun vs H Q E h => ?_) (fun cdv A outer s H vs Q E hr h => ?_)
  · obtain ⟨a, ws, r, rfl, _⟩ := h
    rfl
  · obtain ⟨a, ws, r, rfl, ⟨dx, d, ha, hd⟩, q⟩ := h
    refine ⟨_, (pss_one (ps_ret (pe_callB call_lenR (by rfl) T.len (by decide +kernel) (pa_cons (pe_fld (pv 0) rfl) pa_nil)))), ?_⟩
    refine ⟨_, rfl, a, C, dx, _, _, rfl, ha, cf.cl, cf.nW, fl_w _ _, d, wd ws, rfl, hd, ?_⟩
    rw [wd_len]
    exact q
theorem scIter : FnScope ["self"] ["self"] (defScope sIter) := ⟨rfl, rfl, rfl, by decide +kernel, rfl, by decide +kernel, by decide +kernel⟩
theorem ok_iter {f : Addr} {fd : FuncData} (F : Fun K "__iter__" "Marking.__iter__" sIter f fd) (T : Bare mg) (cf : ClsF K C) : FnOk P w K mg base CX0 1 f fd ["self"] (spIter C) := by
  refine F.ok scIter (fun vs H Q E h => ?_) (fun cdv A outer s H vs Q E hr h => ?_)
  · obtain ⟨a, ws, r, dx, d, od, rfl, _⟩ := h
    rfl
  · obtain ⟨a, ws, r, dx, d, od, rfl, ha, hd, q⟩ := h
    refine ⟨_, (pss_one (ps_ret (pe_callB call_iterD (by rfl) T.iter (by decide +kernel) (pa_cons (pe_fld (pv 0) rfl) pa_nil)))), ?_⟩
    exact ⟨_, rfl, a, C, dx, _, _, rfl, ha, cf.cl, cf.nW, fl_w _ _, d, od, wd ws, rfl, hd, q⟩
theorem no_lk {m : S} {d : Addr} {r : S} (h1 : ¬ m = "_words") (h2 : ¬ m = "_rest") : (fl d r).lookup m = none := by
  rw [← fl_put, lookup_putF, if_neg h2, lookup_putF, if_neg h1]
  rfl
theorem scGet : FnScope ["self", "at"] ["self", "at"] (defScope sGet) := ⟨rfl, rfl, rfl, by decide +kernel, rfl, by decide +kernel, by decide +kernel⟩
theorem ok_get {f fN fW : Addr} {fd fdN fdW : FuncData} (F : Fun K "__getitem__" "Marking.__getitem__" sGet f fd) (T : Bare mg) (c : Cst K mg) (cf : ClsF K C) (FN : Fun K "is_name" "is_name" sIsName fN fdN) (bN : Binds K fdN ["value"] []) (mN : mg "is_name" = some (.ref fN))
    (FW : Fun K "word_of" "Marking.word_of" sWordOf fW fdW) (bW : Binds K fdW ["self", "kind"] []) (mW : Meth K C "word_of" fW) : FnOk P w K mg base CX0 2 f fd ["self", "at"] (spGet C) := by
  have GN : FnOk P w K mg base CX0 1 fN fdN ["value"] spIsName := ok_is_name FN T c
  have GW : FnOk P w K mg base CX0 1 fW fdW ["self", "kind"] (spWordOf C) := ok_wordof FW cf
  refine F.ok scGet (fun vs H Q E h => ?_) (fun cdv A outer s H vs Q E hr h => ?_)
  · obtain ⟨a, ws, r, k, rfl, _⟩ := h
    rfl
  · obtain ⟨a, ws, r, k, rfl, ⟨dx, d, ha, hd⟩, hk, q⟩ := h
    have hr1 : Room 1 _ := hr
    have hr2 : Room 1 _ := hr
    refine ⟨_, (pss_cons (ps_if (pt_not (pt_val (pe_call GN hr1 (by rfl) mN FN.kp bN .nil pass0 (pa_cons (pv 1) pa_nil)))) (pss_one ps_never) pss_nil)
      (pss_one (ps_ret (pe_meth (pv 0) cf.cl mW GW hr2 bW .nil pass0 (pa_cons (pv 1) pa_nil))))), ?_⟩
    refine ⟨_, rfl, k, rfl, by have := nm_len hk; omega, ?_⟩
    rw [hk]
    exact ⟨true, rfl, _, rfl, a, dx, _, rfl, ha, no_lk (by decide +kernel) (by decide +kernel), _, rfl, a, ws, r, k, rfl, ⟨dx, d, ha, hd⟩, q⟩
end
end M46
/-! is_at_most, ==. -/
namespace M46
open PySem PySem.Spec PyProof.Rows L2 R0 K1

/-- words that are fine -/
structure Fine (ws : List (S × S)) (r : S) : Prop where
  nm : ∀ k ∈ ws.map (·.1), nm k = true
  vs : ∀ v ∈ ws.map (·.2), v ∈ W3
  r : r ∈ W3
  len : ws.length ≤ 100
theorem gw_w3 {ws : List (S × S)} {r : S} (h : Fine ws r) (k : S) : gw ws r k ∈ W3 := by
  by_cases m : k ∈ ws.map (·.1)
  · exact h.vs _ (gw_mem m)
  · rw [gw_not m]; exact h.r
def leW (ws : List (S × S)) (r : S) (vs : List (S × S)) (q : S) : Bool := !((ws.map (·.1) ++ (vs.map (·.1) ++ [oth])).any fun k => decide (rk (gw vs q k) < rk (gw ws r k)))
def eqW (ws : List (S × S)) (r : S) (vs : List (S × S)) (q : S) : Bool := leW ws r vs q && leW vs q ws r
theorem fm_bl (f : S → Bool) : ∀ ks : List S, ((ks.map V.str).filterMap fun x => match x with | .str k => some (V.bl (f k)) | _ => none) = (ks.map f).map V.bl
  | [] => rfl
  | k :: ks => by
    show V.bl (f k) :: ((ks.map V.str).filterMap _) = _
    rw [fm_bl f ks]
    rfl
/-- what isinstance asks of the class -/
structure IsF (K : PySem.W.Frag) (C CM : Addr) : Prop where
  ha : PySem.W.findIn K (.ref C) "__class__" = some (some (.builtin "object.__class__"))
  hn : PySem.W.specialIn K (.builtin "object.__class__") "__get__" = some (some (.builtin "getset_descriptor.__get__"))
  htk : PySem.W.takesIn K (.builtin "object.__class__") = some true
  hm : PySem.W.mroIn K C (.type "object") = some true
  one : PySem.W.kitOne K (.ref C) (.ref CM) = some true
def spAtMost (C : Addr) : Sp := fun vs H Q _ => ∃ a b ws r us q, vs = [.ref a, .ref b] ∧ MkAt C H a ws r ∧ MkAt C H b us q ∧ Fine ws r ∧ Fine us q ∧ ∀ H', Same H H' → Q (.bl (leW ws r us q)) H'
def spEq (K : PySem.W.Frag) (C CM : Addr) : Sp := fun vs H Q _ => ∃ a ws r y, vs = [.ref a, y] ∧ MkAt C H a ws r ∧ Fine ws r ∧
  ((∃ b us q, y = .ref b ∧ MkAt C H b us q ∧ Fine us q ∧ ∀ H', Same H H' → Q (.bl (eqW ws r us q)) H') ∨ ∃ t, TyX K H y t ∧ PySem.W.kitOne K t (.ref CM) = some false ∧ Q (.bl false) H)
section
variable {P : Program} {w : World} {K : PySem.W.Frag} {mg : PySem.Str → Option Value} {base : Heap} {C CM : Addr}
theorem scAtMost : FnScope ["self", "value", "kinds", "kind"] ["self", "value"] (defScope sAtMost) := ⟨rfl, rfl, rfl, by decide +kernel, rfl, by decide +kernel, by decide +kernel⟩
theorem ok_atmost {f fK fW fL p : Addr} {fd fdK fdW fdL : FuncData} (F : Fun K "is_at_most" "Marking.is_at_most" sAtMost f fd) (T : Bare mg) (c : Cst K mg) (cf : ClsF K C) (is : IsF K C CM) (mM : mg "Marking" = some (.ref CM))
    (FK : Fun K "kinds" "Marking.kinds" sKinds fK fdK) (bK : Binds K fdK ["self"] []) (pK : PropOf K C "kinds" p fK) (FW : Fun K "word_of" "Marking.word_of" sWordOf fW fdW) (bW : Binds K fdW ["self", "kind"] []) (mW : Meth K C "word_of" fW)
    (FL : Fun K "is_less" "is_less" sLess fL fdL) (bL : Binds K fdL ["word", "other"] []) (mL : mg "is_less" = some (.ref fL)) : FnOk P w K mg base CX0 3 f fd ["self", "value"] (spAtMost C) := by
  have GK : FnOk P w K mg base CX0 1 fK fdK ["self"] (spKinds C) := ok_kinds FK T cf
  have GW : FnOk P w K mg base CX0 1 fW fdW ["self", "kind"] (spWordOf C) := ok_wordof FW cf
  have GL : FnOk P w K mg base CX0 1 fL fdL ["word", "other"] spLess := ok_less FL c
  refine F.ok scAtMost (fun vs H Q E h => ?_) (fun cdv A outer s H vs Q E hr h => ?_)
  · obtain ⟨a, b, ws, r, us, q, rfl, _⟩ := h
    rfl
  · obtain ⟨a, b, ws, r, us, q, rfl, ⟨dx, d, ha, hd⟩, ⟨dy, e, hb, he⟩, fa, fb, k⟩ := h
    have hr1 : Room 2 _ := hr.mono (by decide)
    have hr2 : Room 1 _ := hr.mono (by decide)
    refine ⟨_, (pss_cons (ps_if (pt_not (pt_val (pe_callB call_isi (by rfl) T.isi (by decide +kernel) (pa_cons (pv 1) (pa_cons (pe_glob (v := .ref CM) rfl mM rfl) pa_nil))))) (pss_one (ps_ret pe_bl)) pss_nil)
      (pss_cons (ps_set (i := 2) scAtMost.nd rfl (Or.inl rfl) (pe_tup (pa_starD rfl (pe_fld (pv 0) rfl) (StX.pa_star (pe_prop (pv 1) cf.cl pK GK hr1 bK .nil pass0 rfl) (pa_cons pe_str pa_nil)))))
      (pss_one (ps_ret (pe_not (pe_callB (cr_any rfl) (by rfl) T.any (by decide +kernel) (pa_cons (pe_lc (own := [("kind", 3)]) (g := gName 3) (tt := tYes) rfl scAtMost.nd (pi_tup (pv 2)) (blkOk_by (own := [("kind", 3)]) (N := ["self", "value", "kinds", "kind"]) (sc := defScope sAtMost) (by decide +kernel)) (fun _ _ _ _ _ => pg_name (i := 3) scAtMost.nd rfl (Or.inl rfl)) (fun _ _ _ _ _ => pts_nil) (fun _ _ _ _ _ => (pe_call GL hr2 (by rfl) mL FL.kp bL .nil pass0 (pa_cons (pe_meth (pv 1) cf.cl mW GW hr2 bW .nil pass0 (pa_cons (pv 3) pa_nil)) (pa_cons (pe_meth (pv 0) cf.cl mW GW hr2 bW .nil pass0 (pa_cons (pv 3) pa_nil)) pa_nil))))) pa_nil))))))), ?_⟩
    refine ⟨_, rfl, _, .ref CM, _, .ref CM, true, rfl, .own _, .base (.ins hb cf.cl is.ha is.hn is.htk is.hm), is.one, true, rfl, ?_⟩
    refine ⟨_, rfl, a, C, dx, _, _, rfl, ha, cf.cl, cf.nW, fl_w _ _, d, wd ws, rfl, .inl hd, _, rfl, b, dy, _, rfl, hb, b, us, q, rfl, ⟨dy, e, hb, he⟩, fun p hp => ?_⟩
    refine ⟨p, _, rfl, .inl (.inl (.inl upd_same)), ?_, fun t ht => ?_⟩
    · rw [List.length_append, List.length_append, List.length_map, wd_len, List.length_map, List.length_map, sizeLine_eq]
      have := fa.len
      have := fb.len
      simp only [List.length_cons, List.length_nil]
      omega
    rw [wd_keys] at *
    have s1 : Same H (upd H p (.tup ((us.map (·.1)).map V.str))) := same_upd hp
    generalize upd H p (.tup ((us.map (·.1)).map V.str)) = G at s1 ht ⊢
    have ez : (ws.map (·.1)).map V.str ++ ((us.map (·.1)).map V.str ++ [V.str "other"]) = (ws.map (·.1) ++ (us.map (·.1) ++ [oth])).map V.str := by
      rw [List.map_append, List.map_append]
      rfl
    have hl : (ws.map (·.1) ++ (us.map (·.1) ++ [oth])).length ≤ 1000 := by
      rw [List.length_append, List.length_append, List.length_map, List.length_map]
      have := fa.len
      have := fb.len
      simp only [List.length_cons, List.length_nil]
      omega
    rw [ez]
    have hq : (upd G t (.tup ((ws.map (·.1) ++ (us.map (·.1) ++ [oth])).map V.str))) t = some (.tup ((ws.map (·.1) ++ (us.map (·.1) ++ [oth])).map V.str)) := upd_same
    have s2 : Same H (upd G t (.tup ((ws.map (·.1) ++ (us.map (·.1) ++ [oth])).map V.str))) := s1.trans (same_upd ht)
    generalize upd G t (.tup ((ws.map (·.1) ++ (us.map (·.1) ++ [oth])).map V.str)) = G2 at hq s2 ⊢
    refine ⟨_, rfl, t, rfl, ⟨_, .inl (.inl hq)⟩, fun D n0 => ?_⟩
    have sD : ∀ o, Same H (upd G2 D o) := fun o => s2.trans (same_upd n0)
    refine lc_ex wk_tup (fun x => match x with | .str k => some (V.bl (decide (rk (gw us q k) < rk (gw ws r k)))) | _ => none) (xs := (ws.map (·.1) ++ (us.map (·.1) ++ [oth])).map V.str) (fun ys => .inl (.inl (by rw [upd_ne (ne_of_none hq n0)]; exact hq))) (by rw [List.length_map]; exact hl) (fun i x ys R Nn hx hR hN => ⟨rfl, ?_⟩) ?_
    · obtain ⟨k, rfl⟩ : ∃ k, x = .str k := by
        rw [List.getElem?_map] at hx
        cases z : (ws.map (·.1) ++ (us.map (·.1) ++ [oth]))[i]? with
        | none => rw [z] at hx; cases hx
        | some k => rw [z] at hx; exact ⟨k, (Option.some.inj hx).symm⟩
      have ha' := sD (.lst ys) _ _ ha
      have hd' := sD (.lst ys) _ _ hd
      have hb' := sD (.lst ys) _ _ hb
      have he' := sD (.lst ys) _ _ he
      refine ⟨_, rfl, b, dy, _, rfl, hb', no_lk (by decide +kernel) (by decide +kernel), _, rfl, b, us, q, k, rfl, ⟨dy, e, hb', he'⟩, _, rfl, a, dx, _, rfl, ha', no_lk (by decide +kernel) (by decide +kernel), _, rfl, a, ws, r, k, rfl, ⟨dx, d, ha', hd'⟩, _, _, rfl, gw_w3 fb k, gw_w3 fa k, hR _ rfl⟩
    · rw [fm_bl fun k => decide (rk (gw us q k) < rk (gw ws r k))]
      refine ⟨D, _, rfl, SqL.of upd_same, ?_⟩
      refine ⟨_, rfl, ?_⟩
      rw [List.any_map]
      exact k _ (sD _)
theorem scEq : FnScope ["self", "other"] ["self", "other"] (defScope sEq) := ⟨rfl, rfl, rfl, by decide +kernel, rfl, by decide +kernel, by decide +kernel⟩
theorem ok_eq {f fA : Addr} {fd fdA : FuncData} (F : Fun K "__eq__" "Marking.__eq__" sEq f fd) (T : Bare mg) (cf : ClsF K C) (is : IsF K C CM) (mM : mg "Marking" = some (.ref CM))
    (GA : FnOk P w K mg base CX0 3 fA fdA ["self", "value"] (spAtMost C)) (bA : Binds K fdA ["self", "value"] []) (mA : Meth K C "is_at_most" fA) : FnOk P w K mg base CX0 4 f fd ["self", "other"] (spEq K C CM) := by
  refine F.ok scEq (fun vs H Q E h => ?_) (fun cdv A outer s H vs Q E hr h => ?_)
  · obtain ⟨a, ws, r, y, rfl, _⟩ := h
    rfl
  · obtain ⟨a, ws, r, y, rfl, ⟨dx, d, ha, hd⟩, fa, k⟩ := h
    have hr3 : Room 3 _ := hr.mono (by decide)
    refine ⟨_, (pss_one (ps_ret (pe_and (pe_callB call_isi (by rfl) T.isi (by decide +kernel) (pa_cons (pv 1) (pa_cons (pe_glob (v := .ref CM) rfl mM rfl) pa_nil))) (pe_and (pe_meth (pv 0) cf.cl mA GA hr3 bA .nil pass0 (pa_cons (pv 1) pa_nil)) (pe_one (pe_meth (pv 1) cf.cl mA GA hr3 bA .nil pass0 (pa_cons (pv 0) pa_nil))))))), ?_⟩
    rcases k with ⟨b, us, q, rfl, ⟨dy, e, hb, he⟩, fb, k⟩ | ⟨t, ty, kt, k⟩
    · refine ⟨_, rfl, _, .ref CM, _, .ref CM, true, rfl, .own _, .base (.ins hb cf.cl is.ha is.hn is.htk is.hm), is.one, true, rfl, ?_⟩
      refine ⟨_, rfl, a, dx, _, rfl, ha, no_lk (by decide +kernel) (by decide +kernel), _, rfl, a, b, ws, r, us, q, rfl, ⟨dx, d, ha, hd⟩, ⟨dy, e, hb, he⟩, fa, fb, fun G sG => ⟨_, rfl, ?_⟩⟩
      unfold eqW at k
      cases z : leW ws r us q with
      | false =>
        rw [z] at k
        exact k G sG
      | true =>
        rw [z] at k
        refine ⟨_, rfl, b, dy, _, rfl, sG _ _ hb, no_lk (by decide +kernel) (by decide +kernel), _, rfl, b, a, us, q, ws, r, rfl, ⟨dy, e, sG _ _ hb, sG _ _ he⟩, ⟨dx, d, sG _ _ ha, sG _ _ hd⟩, fb, fa, fun G2 sG2 => ?_⟩
        exact k G2 (sG.trans sG2)
    · exact ⟨_, rfl, _, .ref CM, _, .ref CM, false, rfl, .own _, ty, kt, false, rfl, k⟩
end
end M46
/-! str of a marking. -/
namespace M46
open PySem PySem.Spec PyProof.Rows L2 R0 K1

def tEnt (t1 t2 t3 : TE) : TE := fun σ H Q => tJs [t1, t2, t3] Str.empty σ H fun out H1 => Q (.str out) H1
theorem pe_ent {X : Cx} {a b c : Expr} {t1 t2 t3 : TE} {pos : Pos} (h : PJ X [a, b, c] [t1, t2, t3]) : PE X (.JoinedStr [a, b, c] pos) (tEnt t1 t2 t3) := pe_joined h
def ent (x : S × S) : S := (x.1 ++ (" " : S)) ++ x.2
def txt (ws : List (S × S)) (r : S) : S := Txt.join (", " : S) (ws.map ent ++ [("other " : S) ++ r])
def spStr (C : Addr) : Sp := fun vs H Q _ => ∃ a ws r, vs = [.ref a] ∧ MkAt C H a ws r ∧ Fine ws r ∧ ∀ H', Same H H' → Q (.str (txt ws r)) H'
theorem w3_len {v : S} (h : v ∈ W3) : v.length ≤ 7 := by
  have hx' : v = w0 ∨ v = w1 ∨ v = w2 := by simpa [W3] using h
  rcases hx' with e | e | e <;> subst e <;> decide +kernel
theorem ent_len {x : S × S} (h1 : nm x.1 = true) (h2 : x.2 ∈ W3) : (ent x).length ≤ 16 := by
  unfold ent
  rw [Str.length_append, Str.length_append]
  have := nm_len h1
  have := w3_len h2
  have : (" " : S).length = 1 := by decide +kernel
  omega
theorem sum_le {n : Nat} : ∀ {l : List Nat}, (∀ x ∈ l, x ≤ n) → l.sum ≤ l.length * n
  | [], _ => by simp
  | a :: l, h => by
    rw [List.sum_cons, List.length_cons, Nat.add_mul, Nat.one_mul]
    have h1 := h a (by simp)
    have h2 := sum_le (l := l) fun x hx => h x (by simp [hx])
    omega
section
variable {P : Program} {w : World} {K : PySem.W.Frag} {mg : PySem.Str → Option Value} {base : Heap} {C : Addr}
theorem scStr : FnScope ["self", "kind", "word"] ["self"] (defScope sStr) := ⟨rfl, rfl, rfl, by decide +kernel, rfl, by decide +kernel, by decide +kernel⟩
theorem ok_str {f : Addr} {fd : FuncData} (F : Fun K "__str__" "Marking.__str__" sStr f fd) (cf : ClsF K C) : FnOk P w K mg base CX0 1 f fd ["self"] (spStr C) := by
  refine F.ok scStr (fun vs H Q E h => ?_) (fun cdv A outer s H vs Q E hr h => ?_)
  · obtain ⟨a, ws, r, rfl, _⟩ := h
    rfl
  · obtain ⟨a, ws, r, rfl, ⟨dx, d, ha, hd⟩, fa, k⟩ := h
    have hsz : (1000 : Nat) ≤ sizeLine := by rw [sizeLine_eq]; omega
    refine ⟨_, (pss_one (ps_ret (pe_join pe_str (pe_lst (StX.pa_star (pe_lock (pe_lc (own := [("kind", 1), ("word", 2)]) (g := gTup K 2 (gCons (gName 1) (gCons (gName 2) gNil))) (tt := tYes) rfl scStr.nd (pi_items (pe_fld (pv 0) rfl)) (blkOk_by (own := [("kind", 1), ("word", 2)]) (N := ["self", "kind", "word"]) (sc := defScope sStr) (by decide +kernel)) (fun _ _ _ _ _ => pg_tup rfl (pgs_cons (pg_name (i := 1) scStr.nd rfl (Or.inl rfl)) (pgs_cons (pg_name (i := 2) scStr.nd rfl (Or.inl rfl)) pgs_nil))) (fun _ _ _ _ _ => pts_nil) (fun _ _ _ _ _ => (pe_ent (.cons (pe_fmt (pv 1)) (.cons pe_str (.cons (pe_fmt (pv 2)) .nil))))))) (pa_cons (pe_joined (.cons pe_str (.cons (pe_fmt (pe_fld (pv 0) rfl)) .nil))) pa_nil)))))), ?_⟩
    refine ⟨⟨_, rfl⟩, d, _, hd, trivial, fun od => ?_⟩
    have had : a ≠ d := ne_of ha hd (fun z => nomatch z)
    refine ⟨_, rfl, a, C, dx, _, _, rfl, by rw [upd_ne had]; exact ha, cf.cl, cf.nW, fl_w _ _, d, od, wd ws, rfl, upd_same, fun D n0 => ?_⟩
    have hdD : d ≠ D := ne_of_none upd_same n0
    have nD : H D = none := by rw [upd_ne hdD.symm] at n0; exact n0
    refine lc_gr (J := Iti d od (wd ws)) (H1 := upd H d (.frz od (.dK (wd ws)))) (D := D) (n := ws.length) (fun i ys G => G d = some (.frz od (.dK (wd ws))) ∧ (∀ b u, b ≠ d → H b = some u → G b = some u) ∧ ys = ((ws.take i).map ent).map V.str) (by have := fa.len; omega) (fun i ys G ⟨h1, _, _⟩ hi => ⟨h1, by rw [wd_len]; exact hi⟩) (fun ys G ⟨h1, _, _⟩ => ⟨h1, by rw [wd_len]; exact Nat.le_refl _⟩)
      ⟨by rw [upd_ne hdD, upd_same], fun b u hb e => by rw [upd_ne (ne_of_none e nD), upd_ne hb]; exact e, rfl⟩ (fun i x ys G G' R Nn hi hD hP hy hR hN => ?_) (fun ys G hD hP => ?_)
    · obtain ⟨h1, h2, rfl⟩ := hP
      obtain ⟨T, kk, v, hk, rfl, hT, rfl⟩ := hy
      have hw : ws[i]? = some ws[i] := List.getElem?_eq_getElem hi
      unfold wd at hk
      rw [List.getElem?_map, hw] at hk
      injection (Option.some.inj hk) with e1 e2
      subst e1 e2
      have hm : ws[i] ∈ ws := List.getElem_mem hi
      have n1 := fa.nm ws[i].1 (List.mem_map.mpr ⟨_, hm, rfl⟩)
      have n2 := fa.vs ws[i].2 (List.mem_map.mpr ⟨_, hm, rfl⟩)
      have l1 := nm_len n1
      have l2 := w3_len n2
      have l3 : (" " : S).length = 1 := by decide +kernel
      have e0 : Str.empty ++ ws[i].1 = ws[i].1 := Str.empty_append _
      refine ⟨T, _, rfl, .inl (.inl upd_same), rfl, _, _, rfl, _, _, rfl, rfl, rfl, ?_⟩
      refine ⟨_, rfl, .inl ⟨_, rfl, by omega, _, rfl, by rw [e0]; omega, _, rfl, by rw [e0, Str.length_append]; omega, _, rfl, .inl ⟨_, rfl, by omega, _, rfl, by rw [e0, Str.length_append, Str.length_append]; omega, ?_⟩⟩⟩
      rw [e0]
      have hTd : d ≠ T := ne_of_none h1 hT
      have hTD : D ≠ T := ne_of_none hD hT
      refine hR _ _ (by rw [upd_ne hTD]; exact hD) ⟨by rw [upd_ne hdD, upd_ne hTd]; exact h1, fun b u hb e => ?_, ?_⟩
      · rw [upd_ne (ne_of_none e nD), upd_ne (ne_of_none (h2 b u hb e) hT)]
        exact h2 b u hb e
      · rw [List.take_add_one, hw, List.map_append, List.map_append]
        rfl
    · obtain ⟨h1, h2, rfl⟩ := hP
      refine ⟨h1, ?_⟩
      rw [List.take_length] at hD
      have s1 : Same H (upd G d (.dK (wd ws))) := fun b u e => by
        by_cases hb : b = d
        · rw [hb] at e ⊢
          rw [upd_same, ← hd, e]
        · rw [upd_ne hb]
          exact h2 b u hb e
      have hD2 : (upd G d (.dK (wd ws))) D = some (.lst ((ws.map ent).map V.str)) := by rw [upd_ne hdD.symm]; exact hD
      generalize upd G d (.dK (wd ws)) = G2 at s1 hD2
      have lr := w3_len fa.r
      have lo : ("other " : S).length = 6 := by decide +kernel
      have e0 : Str.empty ++ ("other " : S) = "other " := Str.empty_append _
      refine ⟨D, _, rfl, .inr (.inl (.inl hD2)), ?_⟩
      refine ⟨_, rfl, by rw [e0]; omega, _, rfl, a, C, dx, _, _, rfl, s1 _ _ ha, cf.cl, cf.nR, fl_r _ _, .inl ⟨_, rfl, by omega, _, rfl, by rw [e0, Str.length_append]; omega, ?_⟩⟩
      rw [e0]
      have hlen := fa.len
      refine ⟨by rw [List.length_append, List.length_map, List.length_map]; simp only [List.length_cons, List.length_nil]; omega, fun q hq => ?_⟩
      refine ⟨", ", q, ws.map ent ++ [("other " : S) ++ r], rfl, rfl, .inl (SqL.of (upd_same.trans (by rw [List.map_append]; rfl))), ?_, k _ (s1.trans (same_upd hq))⟩
      have b1 : ((ws.map ent ++ [("other " : S) ++ r]).map (·.length)).sum ≤ (ws.map ent ++ [("other " : S) ++ r]).length * 16 := by
        have := sum_le (n := 16) (l := (ws.map ent ++ [("other " : S) ++ r]).map (·.length)) fun x hx => by
          obtain ⟨y, hy, rfl⟩ := List.mem_map.mp hx
          rcases List.mem_append.mp hy with hy | hy
          · obtain ⟨z, hz, rfl⟩ := List.mem_map.mp hy
            exact ent_len (fa.nm _ (List.mem_map.mpr ⟨z, hz, rfl⟩)) (fa.vs _ (List.mem_map.mpr ⟨z, hz, rfl⟩))
          · rw [List.mem_singleton.mp hy, Str.length_append]
            omega
        rw [List.length_map] at this
        exact this
      have b2 : (", " : S).length = 2 := by decide +kernel
      rw [List.length_append, List.length_map] at b1 ⊢
      simp only [List.length_cons, List.length_nil] at b1 ⊢
      rw [b2]
      refine Nat.le_trans (Nat.add_le_add_right b1 _) ?_
      omega
end
end M46
/-! Marking.of, even, with_word. -/
namespace M46
open PySem PySem.Spec PyProof.Rows L2 R0 K1

def slf : S := "self"
/-- the class that of makes -/
def clsOf (CM CT : Addr) (ws : List (S × S)) : Addr := if slf ∈ ws.map (·.1) then CT else CM
def noOth (ws : List (S × S)) : List (S × S) := ws.filter fun x => !decide (x.1 = oth)
theorem gw_noOth {r k : S} (h : k ≠ oth) : ∀ {ws : List (S × S)}, gw (noOth ws) r k = gw ws r k
  | [] => rfl
  | (a, b) :: ws => by
    unfold noOth
    by_cases e : a = oth
    · rw [List.filter_cons_of_neg (by simpa using e), gw_cons, if_neg (fun z => h (z.trans e))]
      exact gw_noOth h
    · rw [List.filter_cons_of_pos (by simpa using e), gw_cons, gw_cons]
      by_cases f : k = a
      · rw [if_pos f, if_pos f]
      · rw [if_neg f, if_neg f]
        exact gw_noOth h
def normd (ws : List (S × S)) : List (S × S) := putS (noOth ws) oth (rest ws)
theorem oth_noOth {ws : List (S × S)} : oth ∉ (noOth ws).map (·.1) := by
  intro h
  obtain ⟨x, hx, e⟩ := List.mem_map.mp h
  have := (List.mem_filter.mp hx).2
  simp [e] at this
theorem rest_norm {ws : List (S × S)} : rest (normd ws) = rest ws := by
  unfold rest normd
  rw [gw_put, if_pos rfl]
  rfl
theorem gw_norm {ws : List (S × S)} (k : S) : gw (normd ws) (rest ws) k = gw ws (rest ws) k := by
  unfold normd
  rw [gw_put]
  by_cases e : k = oth
  · rw [if_pos e, e]
    by_cases m : oth ∈ ws.map (·.1)
    · exact gw_any m
    · rw [gw_not m]
  · rw [if_neg e]
    exact gw_noOth e
theorem rest_w3 {ws : List (S × S)} (h : ∀ v ∈ ws.map (·.2), v ∈ W3) : rest ws ∈ W3 := by
  unfold rest
  by_cases m : oth ∈ ws.map (·.1)
  · exact h _ (gw_mem m)
  · rw [gw_not m]
    exact List.mem_cons_self
theorem nm_oth : nm oth = true := by decide +kernel
theorem wok_norm {ws : List (S × S)} (h : Wok ws) (hl : ws.length ≤ 39) : Wok (normd ws) := by
  unfold normd
  have hsub : List.Sublist (noOth ws) ws := List.filter_sublist
  refine ⟨fun k hk => ?_, vals_put (p := fun v => v ∈ W3) (fun v hv => h.vs v ((hsub.map _).mem hv)) (rest_w3 h.vs), nodup_put ((hsub.map (·.1)).nodup h.nd), ?_⟩
  · rcases mem_put.mp hk with hk | hk
    · exact h.nm k ((hsub.map _).mem hk)
    · rw [hk]; exact nm_oth
  · have := len_put (k := oth) (v := rest ws) (ws := noOth ws)
    have := hsub.length_le
    omega
theorem canon_norm {ws vs : List (S × S)} {r : S} (h : Canon (normd ws) vs r) : Canon ws vs r := by
  obtain ⟨e, ys, h1, h2, h3, h4, h5, h6⟩ := h
  rw [rest_norm] at e h5 h6
  have ef : gw (normd ws) (rest ws) = gw ws (rest ws) := funext gw_norm
  rw [ef] at h5 h6
  exact ⟨e, ys, h1, h2, h3, h4, h5, h6⟩
theorem kv_look_oth {ws : List (S × S)} : ((ws.map fun x => (x.1, V.str x.2)).lookup ("other" : S)).getD (V.str w0) = V.str (rest ws) := by
  unfold rest gw
  have : ∀ ws : List (S × S), (ws.map fun x => (x.1, V.str x.2)).lookup ("other" : S) = (ws.lookup oth).map V.str := fun ws => by
    induction ws with
    | nil => rfl
    | cons a ws ih =>
      rw [List.map_cons, List.lookup_cons, List.lookup_cons]
      show (match oth == a.1 with | true => some (V.str a.2) | false => _) = _
      cases oth == a.1 with
      | true => rfl
      | false => exact ih
  rw [this]
  cases ws.lookup oth <;> rfl
theorem kv_noOth {ws : List (S × S)} : nmK ((ws.map fun x => (x.1, V.str x.2)).filter fun q => !decide (q.1 = ("other" : S))) = wd (noOth ws) := by
  rw [← wd_nmK]
  congr 1
  unfold noOth
  rw [List.filter_map]
  rfl
def spOf (CM CT : Addr) : Sp := fun vs H Q _ => ∃ (d : Addr) (ws : List (S × S)), vs = [.ref CM, .ref d] ∧ H d = some (.dK (wd ws)) ∧ Wok ws ∧ ws.length ≤ 39 ∧
  ∀ (H' : Hp) (b : Addr) (us : List (S × S)) (r : S), Same H H' → H b = none → MkAt (clsOf CM CT ws) H' b us r → Canon ws us r → Q (.ref b) H'
def spEven (CM : Addr) : Sp := fun vs H Q _ => ∃ v : S, vs = [.ref CM, .str v] ∧ v ∈ W3 ∧
  ∀ (H' : Hp) (b : Addr) (us : List (S × S)) (r : S), Same H H' → H b = none → MkAt CM H' b us r → Canon [(oth, v)] us r → Q (.ref b) H'
section
variable {P : Program} {w : World} {K : PySem.W.Frag} {mg : PySem.Str → Option Value} {base : Heap} {C CM CT : Addr}
theorem scOf : FnScope ["cls", "words"] ["cls", "words"] (defScope sOf) := ⟨rfl, rfl, rfl, by decide +kernel, rfl, by decide +kernel, by decide +kernel⟩
theorem made_same {H : Hp} {x dx C : Addr} (nx : H x = none) (nd : H dx = none) : Same H (upd (upd H dx (.own x)) x (.ins C dx [])) := fun b o e => by
  rw [upd_ne (ne_of_none e nx), upd_ne (ne_of_none e nd)]
  exact e
/-- Marking by keywords, from a dict of them -/
theorem make_kw {H : Hp} {Q : VK} {E : XK} {ws : List (S × S)} (ok : Wok ws) (hl : ws.length ≤ 39) (hs : slf ∉ ws.map (·.1)) (q : ∀ (H' : Hp) (b : Addr) (us : List (S × S)) (r : S), Same H H' → H b = none → MkAt CM H' b us r → Canon ws us r → Q (.ref b) H') :
    rMakeW CM (spW "self" "other" (V.str w0) (spInit CM)) E (ws.map fun x => (x.1, V.str x.2)) H Q := by
  intro x dx nx nd nex
  have s1 := made_same (C := CM) nx nd
  have hk : (ws.map fun x => (x.1, V.str x.2)).map (·.1) = ws.map (·.1) := by rw [List.map_map]; rfl
  refine ⟨by rw [hk]; exact hs, by rw [hk]; exact ok.nd, by rw [List.length_map]; omega, fun d hd => ?_⟩
  rw [kv_look_oth, kv_noOth]
  have hx : (upd (upd H dx (.own x)) x (.ins CM dx [])) x = some (.ins CM dx []) := upd_same
  have hxd : x ≠ d := ne_of_none hx hd
  refine ⟨x, dx, d, noOth ws, rest ws, rfl, by rw [upd_ne hxd]; exact hx, upd_same, wok_norm ok hl, fun H' us r s2 m c => ⟨rfl, q H' x us r (fun b u e => ?_) nx m (canon_norm c)⟩⟩
  have hbx : b ≠ x := ne_of_none e nx
  refine s2 b u hbx ?_
  rw [upd_ne (ne_of_none (s1 _ _ e) hd)]
  exact s1 _ _ e
theorem ok_of {f fN fC fT fM : Addr} {fd fdN fdC fdT : FuncData} (F : Fun K "of" "Marking.of" sOf f fd) (T : Bare mg) (c : Cst K mg) (FN : Fun K "is_name" "is_name" sIsName fN fdN) (bN : Binds K fdN ["value"] []) (mN : mg "is_name" = some (.ref fN))
    (FC : Fun K "_check_words" "_check_words" sCheck fC fdC) (bC : Binds K fdC ["words"] []) (mC : mg "_check_words" = some (.ref fC))
    (MT : Mk K CT fT) (GT : FnOk P w K mg base CX0 4 fT fdT ["self", "words"] (spTaken CT)) (bT : Binds K fdT ["self", "words"] []) (mT : mg "TakenMarking" = some (.ref CT))
    (MM : Mk K CM fM) (GM : FnW P w K mg base CX0 4 fM (spW "self" "other" (V.str w0) (spInit CM))) (mM : mg "Marking" = some (.ref CM)) : FnOk P w K mg base CX0 6 f fd ["cls", "words"] (spOf CM CT) := by
  have GC : FnOk P w K mg base CX0 2 fC fdC ["words"] spCheck := ok_check FC T c FN bN mN
  refine F.ok scOf (fun vs H Q E h => ?_) (fun cdv A outer s H vs Q E hr h => ?_)
  · obtain ⟨d, ws, rfl, _⟩ := h
    rfl
  · obtain ⟨d, ws, rfl, hd, ok, hl, q⟩ := h
    have hr2 : Room 2 _ := hr.mono (by decide)
    have hu := hu_of hr
    refine ⟨_, (pss_cons (ps_expr (pe_call GC hr2 (by rfl) mC FC.kp bC .nil pass0 (pa_cons (pv 1) pa_nil)))
      (pss_one (ps_ret (pe_ifExp (pt_cmp (pc_din hu pe_str (pv 1))) (pe_make MT GT hr (by rfl) mT bT .nil pass0 (pa_cons (pv 1) pa_nil)) (pe_makeSS MM GM hr rfl mM pass0 (pv 1)))))), ?_⟩
    refine ⟨_, rfl, d, ws, rfl, hd, ok, fun G sG => ?_⟩
    have hd' := sG _ _ hd
    refine ⟨_, rfl, d, _, rfl, DGet.k (k := Sum.inr slf) hd', _, rfl, ?_⟩
    rw [val_some]
    unfold clsOf at q
    by_cases hs : slf ∈ ws.map (·.1)
    · rw [if_pos hs] at q
      rw [decide_eq_true hs]
      refine ⟨_, rfl, fun x dx nx nd nex => ?_⟩
      have s1 := made_same (C := CT) nx nd
      have hxn : H x = none := sG.free nx
      refine ⟨x, dx, d, ws, rfl, upd_same, s1 _ _ hd', ok, fun H' us r s2 m cn => ⟨rfl, q H' x us r (fun b u e => ?_) hxn m cn⟩⟩
      exact s2 b u (ne_of_none e hxn) (s1 _ _ (sG _ _ e))
    · rw [if_neg hs] at q
      rw [decide_eq_false hs]
      refine fun p hp => ⟨_, rfl, d, ws.map fun x => (x.1, V.str x.2), rfl, ne_of_none hd' hp, ?_, upd_same, by rw [List.length_map]; omega, ?_⟩
      · rw [wd_nmK]
        exact .inl (by rw [upd_ne (ne_of_none hd' hp)]; exact hd')
      · rw [upd_upd]
        refine make_kw ok hl hs fun H' b us r s2 nb m cn => q H' b us r (fun b u e => s2 _ _ (same_upd hp _ _ (sG _ _ e))) (sG.free ((same_upd hp).free nb)) m cn
theorem scEven : FnScope ["cls", "word"] ["cls", "word"] (defScope sEven) := ⟨rfl, rfl, rfl, by decide +kernel, rfl, by decide +kernel, by decide +kernel⟩
theorem ok_even {f fM : Addr} {fd : FuncData} (F : Fun K "even" "Marking.even" sEven f fd) (MM : Mk K CM fM) (GM : FnW P w K mg base CX0 4 fM (spW "self" "other" (V.str w0) (spInit CM))) (mM : mg "Marking" = some (.ref CM)) : FnOk P w K mg base CX0 6 f fd ["cls", "word"] (spEven CM) := by
  refine F.ok scEven (fun vs H Q E h => ?_) (fun cdv A outer s H vs Q E hr h => ?_)
  · obtain ⟨v, rfl, _⟩ := h
    rfl
  · obtain ⟨v, rfl, hv, q⟩ := h
    refine ⟨_, (pss_one (ps_ret (pe_makeKV (ks := ["other"]) MM GM hr rfl mM pass0 (pk_cons (pv 1) pk_nil)))), ?_⟩
    refine ⟨_, rfl, ?_⟩
    have ok : Wok [(oth, v)] := ⟨fun k hk => by rw [List.mem_singleton.mp hk]; exact nm_oth, fun x hx => by rw [List.mem_singleton.mp hx]; exact hv, by simp, by simp⟩
    exact make_kw (ws := [(oth, v)]) ok (by simp) (by intro z; exact absurd (List.mem_singleton.mp z) (show ¬ slf = oth by decide +kernel)) q
end
end M46
/-! with_word. -/
namespace M46
open PySem PySem.Spec PyProof.Rows L2 R0 K1 ClX

theorem merge_two {ws : List (S × S)} {r k v : S} (h : (ws.map (·.1)).Nodup) (ho : oth ∉ ws.map (·.1)) : mergeK (mergeK [] (wd ws)) (mergeK [] (wd [(oth, r), (k, v)])) = wd (putS (ws ++ [(oth, r)]) k v) := by
  rw [merge_nil h]
  have e1 : mergeK [] (wd [(oth, r), (k, v)]) = wd (putS [(oth, r)] k v) := by
    show putK (putK (wd []) (Sum.inr oth : Key) (.str r)) (Sum.inr k : Key) (.str v) = _
    rw [put_wd, put_wd]
    rfl
  rw [e1]
  by_cases e : k = oth
  · subst e
    have e2 : putS [(oth, r)] oth v = [(oth, v)] := by simp [putS]
    rw [e2]
    show putK (wd ws) (Sum.inr oth : Key) (.str v) = _
    rw [put_wd, put_new ho]
    unfold putS
    rw [if_pos (by simp)]
    congr 1
    rw [List.map_append]
    have : (ws.map fun x => if x.1 = oth then (x.1, v) else x) = ws := by
      have h2 : ∀ x ∈ ws, (if x.1 = oth then (x.1, v) else x) = x := fun x hx => by
        rw [if_neg]
        intro z
        exact ho (List.mem_map.mpr ⟨x, hx, z⟩)
      rw [List.map_congr_left h2, List.map_id']
    rw [this]
    simp
  · have e2 : putS [(oth, r)] k v = [(oth, r), (k, v)] := by
      rw [put_new (by simpa using e)]
      rfl
    rw [e2]
    show putK (putK (wd ws) (Sum.inr oth : Key) (.str r)) (Sum.inr k : Key) (.str v) = _
    rw [put_wd, put_wd, put_new ho]
def spWith (C CM CT : Addr) : Sp := fun vs H Q _ => ∃ a ws r k v, vs = [.ref a, .str k, .str v] ∧ MkAt C H a ws r ∧ Fine ws r ∧ (ws.map (·.1)).Nodup ∧ oth ∉ ws.map (·.1) ∧ ws.length ≤ 37 ∧ nm k = true ∧ v ∈ W3 ∧
  ∀ (H' : Hp) (b : Addr) (us : List (S × S)) (q : S), Same H H' → H b = none → MkAt (clsOf CM CT (putS (ws ++ [(oth, r)]) k v)) H' b us q → Canon (putS (ws ++ [(oth, r)]) k v) us q → Q (.ref b) H'
theorem wok_with {ws : List (S × S)} {r k v : S} (f : Fine ws r) (nd : (ws.map (·.1)).Nodup) (ho : oth ∉ ws.map (·.1)) (hl : ws.length ≤ 37) (hk : nm k = true) (hv : v ∈ W3) : Wok (putS (ws ++ [(oth, r)]) k v) ∧ (putS (ws ++ [(oth, r)]) k v).length ≤ 39 := by
  have l1 : (putS (ws ++ [(oth, r)]) k v).length ≤ 39 := by
    have := len_put (k := k) (v := v) (ws := ws ++ [(oth, r)])
    rw [List.length_append, List.length_singleton] at this
    omega
  refine ⟨⟨fun j hj => ?_, vals_put (p := fun v => v ∈ W3) (fun x hx => ?_) hv, nodup_put ?_, by omega⟩, l1⟩
  · rcases mem_put.mp hj with hj | hj
    · rw [List.map_append, List.mem_append] at hj
      rcases hj with hj | hj
      · exact f.nm j hj
      · rw [List.mem_singleton.mp hj]; exact nm_oth
    · rw [hj]; exact hk
  · rw [List.map_append, List.mem_append] at hx
    rcases hx with hx | hx
    · exact f.vs x hx
    · rw [List.mem_singleton.mp hx]; exact f.r
  · rw [List.map_append, List.nodup_append]
    refine ⟨nd, by simp, fun a ha b hb => ?_⟩
    rw [List.mem_singleton.mp hb]
    intro e
    have e' : a = oth := e
    exact ho (by rw [← e']; exact ha)
section
variable {P : Program} {w : World} {K : PySem.W.Frag} {mg : PySem.Str → Option Value} {base : Heap} {C CM CT : Addr} {mc : Value}
theorem scWith : FnScope ["self", "kind", "word"] ["self", "kind", "word"] (defScope sWith) := ⟨rfl, rfl, rfl, by decide +kernel, rfl, by decide +kernel, by decide +kernel⟩
theorem ok_with {f fN fO pO : Addr} {fd fdN : FuncData} (F : Fun K "with_word" "Marking.with_word" sWith f fd) (T : Bare mg) (c : Cst K mg) (cf : ClsF K C) (FN : Fun K "is_name" "is_name" sIsName fN fdN) (bN : Binds K fdN ["value"] []) (mN : mg "is_name" = some (.ref fN))
    (mM : mg "Marking" = some (.ref CM)) (cr : CRead K CM mc) (cO : CMet K CM mc "of" pO fO) (GO : FnR P w K mg base CX0 6 fO (spOf CM CT)) : FnOk P w K mg base CX0 7 f fd ["self", "kind", "word"] (spWith C CM CT) := by
  have GN : FnOk P w K mg base CX0 1 fN fdN ["value"] spIsName := ok_is_name FN T c
  refine F.ok scWith (fun vs H Q E h => ?_) (fun cdv A outer s H vs Q E hr h => ?_)
  · obtain ⟨a, ws, r, k, v, rfl, _⟩ := h
    rfl
  · obtain ⟨a, ws, r, k, v, rfl, ⟨dx, d, ha, hd⟩, fa, nd, ho, hl, hk, hv, q⟩ := h
    have hr1 : Room 1 _ := hr.mono (by decide)
    have hr5 : Room 6 _ := hr.mono (by decide)
    obtain ⟨ok, l39⟩ := wok_with fa nd ho hl hk hv
    refine ⟨_, (pss_cons (ps_if (pt_not (pt_val (pe_call GN hr1 (by rfl) mN FN.kp bN .nil pass0 (pa_cons (pv 1) pa_nil)))) (pss_one ps_never) pss_nil)
      (pss_one (ps_ret (pe_cmeth (pe_glob (v := .ref CM) rfl mM rfl) cr cO GO hr5 pass0 (pa_cons (pe_dd (pe_fld (pv 0) rfl) (pps_cons pe_str (pe_fld (pv 0) rfl) (pps_cons (pv 1) (pv 2) pps_nil)) (by rfl) (by rfl) (fun z => by cases z) (by decide)) pa_nil))))), ?_⟩
    refine ⟨_, rfl, k, rfl, by have := nm_len hk; omega, ?_⟩
    rw [hk]
    refine ⟨true, rfl, rfl, fun p hp => ⟨_, rfl, a, C, dx, _, _, rfl, by rw [upd_ne (ne_of_none ha hp)]; exact ha, cf.cl, cf.nW, fl_w _ _, d, wd ws, rfl, .inl (by rw [upd_ne (ne_of_none hd hp)]; exact hd), ne_of_none hd hp, upd_same, by rw [wd_len]; omega, fun e he => ?_⟩⟩
    have hpe : p ≠ e := ne_of_none upd_same he
    have he0 : H e = none := by rw [upd_upd, upd_ne hpe.symm] at he; exact he
    have hap : a ≠ p := ne_of_none ha hp
    have hae : a ≠ e := ne_of_none ha he0
    refine ⟨_, rfl, a, C, dx, _, _, rfl, by rw [upd_ne hae, upd_ne hap, upd_ne hap]; exact ha, cf.cl, cf.nR, fl_r _ _, _, rfl, _, rfl, by rw [upd_ne hpe, upd_same], upd_same, wd [(oth, r), (k, v)], rfl, (by rw [wd_len]; exact Nat.succ_le_succ (Nat.succ_le_succ (Nat.zero_le _))), ?_⟩
    rw [merge_two nd ho]
    have s3 : Same H (upd (upd (upd (upd (upd H p (.dK [])) p (.dK (mergeK [] (wd ws)))) e (.dK [])) e (.dK (mergeK [] (wd [(oth, r), (k, v)])))) p (.dK (wd (putS (ws ++ [(oth, r)]) k v)))) := fun b u eb => by
      have b1 : b ≠ p := ne_of_none eb hp
      have b2 : b ≠ e := ne_of_none eb he0
      rw [upd_ne b1, upd_ne b2, upd_ne b2, upd_ne b1, upd_ne b1]
      exact eb
    exact ⟨p, _, rfl, upd_same, ok, l39, fun H' b us q' s4 nb m cn => q H' b us q' (s3.trans s4) (s3.free nb) m cn⟩
end
end M46
/-! The dice. -/
namespace M46
open PySem PySem.Spec PyProof.Rows L2 R0

/-- dice at p: three numbers -/
structure Dice (H : Hp) (p : Addr) (x y z : Int) : Prop where
  at_ : H p = some (.lst [.int x, .int y, .int z])
  x0 : 0 ≤ x
  x1 : x.natAbs < 2 ^ 2400
  y0 : 0 ≤ y
  y1 : y < 2147483648
  z0 : 0 ≤ z
def spDice (K : PySem.W.Frag) : Sp := fun vs H Q _ => ∃ (a : Addr) (ns : List Int) (i : Int), vs = [.ref a, .int i] ∧ SqL K H a (ns.map V.int) ∧ ns.length ≤ 1000 ∧ 0 ≤ i ∧ ∀ (p : Addr) (x y : Int) (H' : Hp), Same H H' → H p = none → Dice H' p x y 0 → Q (.ref p) H'
def spPull : Sp := fun vs H Q _ => ∃ (p : Addr) (x y z n : Int), vs = [.ref p, .int n] ∧ Dice H p x y z ∧ 0 < n ∧ n < 1000000 ∧
  ∀ (r x' z' : Int) (H' : Hp), 0 ≤ r → r < n → Dice H' p x' y z' → z' ≤ z + 1 → (∀ b o, b ≠ p → H b = some o → H' b = some o) → Q (.int r) H'
def spPick : Sp := fun vs H Q _ => ∃ (p q : Addr) (x y z : Int) (xs : List V), vs = [.ref p, .ref q] ∧ Dice H p x y z ∧ p ≠ q ∧ H q = some (.lst xs) ∧ 0 < xs.length ∧ xs.length < 1000 ∧
  ∀ (j : Nat) (v : V) (x' z' : Int) (H' : Hp), xs[j]? = some v → Dice H' p x' y z' → z' ≤ z + 1 → (∀ b o, b ≠ p → H b = some o → H' b = some o) → Q v H'
section
variable {X : Cx}
theorem op_powX : OpR X (binaryOp .Pow) (rI (fun i j => 0 ≤ j ∧ (Builtin.Int.intBits i : Int) * j ≤ 2 ^ 27) fun i j => .int (i ^ j.toNat)) := opI fun _ _ _ _ _ _ _ hc q => pow_int hc.1 hc.2 q
end
section
variable {P : Program} {w : World} {K : PySem.W.Frag} {mg : PySem.Str → Option Value} {base : Heap}
theorem scDice : FnScope ["_law_script", "_law_at", "_law_cell", "_law_great", "_law_mixed"] ["_law_script", "_law_at"] (defScope sDice) := ⟨rfl, rfl, rfl, by decide +kernel, rfl, by decide +kernel, by decide +kernel⟩
theorem big_pos : (0 : Int) < ((10 : Int) ^ (60 : Int).toNat) ^ (12 : Int).toNat := by decide +kernel
theorem big_lt : (((10 : Int) ^ (60 : Int).toNat) ^ (12 : Int).toNat).natAbs < 2 ^ 2400 := by decide +kernel
theorem big_bits : (Builtin.Int.intBits ((10 : Int) ^ (60 : Int).toNat) : Int) * 12 ≤ 2 ^ 27 := by decide +kernel
theorem dice_made {H : Hp} {p : Addr} {c m : Int} (h : H p = some (.lst [.int (if (if c < 0 then -c else c) % ((10 : Int) ^ (60 : Int).toNat) ^ (12 : Int).toNat - (10 : Int) ^ (18 : Int).toNat > 0 then (if c < 0 then -c else c) % ((10 : Int) ^ (60 : Int).toNat) ^ (12 : Int).toNat - (10 : Int) ^ (18 : Int).toNat else 0), .int (m % 2147483489), .int 0])) :
    Dice H p (if (if c < 0 then -c else c) % ((10 : Int) ^ (60 : Int).toNat) ^ (12 : Int).toNat - (10 : Int) ^ (18 : Int).toNat > 0 then (if c < 0 then -c else c) % ((10 : Int) ^ (60 : Int).toNat) ^ (12 : Int).toNat - (10 : Int) ^ (18 : Int).toNat else 0) (m % 2147483489) 0 := by
  have h1 := Int.emod_nonneg (if c < 0 then -c else c) (Int.ne_of_gt big_pos)
  have h2 := Int.emod_lt_of_pos (if c < 0 then -c else c) big_pos
  have h3 := big_lt
  have h6 : (0 : Int) ≤ (10 : Int) ^ (18 : Int).toNat := by decide
  generalize (if c < 0 then -c else c) % ((10 : Int) ^ (60 : Int).toNat) ^ (12 : Int).toNat = g at h1 h2 h ⊢
  generalize ((10 : Int) ^ (60 : Int).toNat) ^ (12 : Int).toNat = n at h2 h3
  generalize (10 : Int) ^ (18 : Int).toNat = t at h6 h ⊢
  have h4 : g.natAbs < 2 ^ 2400 := Nat.lt_of_le_of_lt (by omega) h3
  refine ⟨h, ?_, ?_, Int.emod_nonneg _ (by decide), Int.lt_trans (Int.emod_lt_of_pos m (show (0 : Int) < 2147483489 by decide)) (by decide), Int.le_refl _⟩
  · split <;> omega
  · split
    · exact Nat.lt_of_le_of_lt (by omega) h4
    · show 0 < 2 ^ 2400
      exact Nat.pow_pos (by decide)
theorem ok_dice {f : Addr} {fd : FuncData} (F : Fun K "_law_dice" "_law_dice" sDice f fd) (T : Bare mg) : FnOk P w K mg base CX0 1 f fd ["_law_script", "_law_at"] (spDice K) := by
  refine F.ok scDice (fun vs H Q E h => ?_) (fun cdv A outer s H vs Q E hr h => ?_)
  · obtain ⟨a, ns, i, rfl, _⟩ := h
    rfl
  · obtain ⟨a, ns, i, rfl, hS, hlen, hi, k⟩ := h
    refine ⟨_, pss_cons (ps_set (i := 2) scDice.nd rfl (Or.inl rfl) (pe_op op_add (pe_op op_mul pe_int (pv 1)) pe_int))
      (pss_cons (ps_if (pt_cmpR op_lt (pv 1) (pe_callB call_len_seq (by rfl) T.len PySem.boot_len (pa_cons (pv 0) pa_nil)) (nomark _)) (pss_one (ps_set (i := 2) scDice.nd rfl (Or.inl rfl) (pe_ix ix_list (pv 0) (pv 1) (fun _ _ => rfl)))) pss_nil)
      (pss_cons (ps_set (i := 3) scDice.nd rfl (Or.inl rfl) (pe_op op_mod (pe_callTy call_int1 (by rfl) T.int (by decide +kernel) (pa_cons (pe_callB call_abs (by rfl) T.abs (by decide +kernel) (pa_cons (pv 2) pa_nil)) pa_nil)) (pe_op op_powX (pe_op op_pow pe_int pe_int) pe_int)))
      (pss_cons (ps_set (i := 4) scDice.nd rfl (Or.inl rfl) (pe_op op_add (pe_op op_add (pe_op op_add (pe_op op_mul (pe_op op_mod (pe_callTy call_int1 (by rfl) T.int (by decide +kernel) (pa_cons (pv 3) pa_nil)) pe_int) pe_int) (pe_op op_mul pe_int (pv 1)))
          (pe_op op_mul pe_int (pe_callTy call_int1 (by rfl) T.int (by decide +kernel) (pa_cons (pe_cmpR op_lt (pv 2) pe_int (nomark _)) pa_nil)))) pe_int))
      (pss_one (ps_ret (pe_lst (pa_cons (pe_callB (call_max2 rfl) (by rfl) T.max (by decide +kernel) (pa_cons pe_int (pa_cons (pe_op op_sub (pv 3) (pe_op op_pow pe_int pe_int)) pa_nil)))
          (pa_cons (pe_op op_mod (pe_callTy call_int1 (by rfl) T.int (by decide +kernel) (pa_cons (pv 4) pa_nil)) pe_int) (pa_cons pe_int pa_nil))))))))), ?_⟩
    refine ⟨_, rfl, _, _, rfl, rfl, .inl ⟨by decide, by decide⟩, _, _, rfl, rfl, _, rfl, _, rfl, a, _, rfl, .inl hS, _, _, rfl, rfl, _, rfl, ?_⟩
    refine ite2 (fun hlt => ?ya) (fun _ => ?na)
    case' ya =>
      have hlt' := of_decide_eq_true hlt
      rw [List.length_map] at hlt'
      obtain ⟨j, rfl⟩ : ∃ j : Nat, i = (j : Int) := ⟨i.toNat, by omega⟩
      have hj : j < ns.length := by omega
      refine ⟨_, rfl, _, rfl, a, _, _, .int ns[j], rfl, rfl, hS, at_of rfl (by rw [List.getElem?_map, List.getElem?_eq_getElem hj] <;> rfl), ?_⟩
    all_goals
      refine ⟨_, rfl, _, rfl, .inl ⟨_, rfl, _, _, rfl, rfl, ⟨by decide, by decide, by decide⟩, _, _, rfl, rfl, ⟨by decide, big_bits⟩, _, _, rfl, rfl, big_pos, ?_⟩⟩
      refine ⟨_, rfl, .inl ⟨_, rfl, _, _, rfl, rfl, (by show (0 : Int) < 2147483543; decide), _, _, rfl, rfl, .inr ⟨by decide, by decide⟩, _, rfl, _, _, rfl, rfl, .inl ⟨by decide, by decide⟩, _, _, rfl, rfl, _, rfl, _, _, rfl, rfl, .inr ⟨_, rfl, _, _, rfl, rfl, .inl ⟨by decide, by decide⟩, _, _, rfl, rfl, _, _, rfl, rfl, ?_⟩⟩⟩
      refine ⟨_, rfl, _, _, rfl, rfl, ⟨by decide, by decide, by decide⟩, _, _, rfl, rfl, _, _, rfl, _, rfl, .inl ⟨_, rfl, _, _, rfl, rfl, (by show (0 : Int) < 2147483489; decide), (by show 3 ≤ sizeLine; decide), fun p hp => ?_⟩⟩
      refine k p _ _ _ (fun b o e => by rw [upd_ne (ne_of_none e hp)] <;> exact e) hp (dice_made upd_same)
theorem scPull : FnScope ["_law_dice_here", "_law_total", "_law_found", "_law_one", "_law_two"] ["_law_dice_here", "_law_total"] (defScope sPull) := ⟨rfl, rfl, rfl, by decide +kernel, rfl, by decide +kernel, by decide +kernel⟩
theorem ok_pull {f : Addr} {fd : FuncData} (F : Fun K "_law_pull" "_law_pull" sPull f fd) (T : Bare mg) : FnOk P w K mg base CX0 1 f fd ["_law_dice_here", "_law_total"] spPull := by
  refine F.ok scPull (fun vs H Q E h => ?_) (fun cdv A outer s H vs Q E hr h => ?_)
  · obtain ⟨p, x, y, z, n, rfl, _⟩ := h
    rfl
  · obtain ⟨p, x, y, z, n, rfl, D, hn0, hn1, k⟩ := h
    refine ⟨_, pss_cons (ps_if (pt_cmpR op_gt (pe_ix ix_list (pv 0) pe_int (fun _ _ => rfl)) pe_int (nomark _))
        (pss_cons (ps_set (i := 2) scPull.nd rfl (Or.inl rfl) (pe_op op_mod (pe_callTy call_int1 (by rfl) T.int (by decide +kernel) (pa_cons (pe_ix ix_list (pv 0) pe_int (fun _ _ => rfl)) pa_nil)) (pv 1)))
        (pss_cons (ps_asg (pe_op op_fdiv (pe_ix ix_list (pv 0) pe_int (fun _ _ => rfl)) (pv 1)) (pg_sub (pv 0) pe_int set_list))
        (pss_one (ps_ret (pv 2))))) pss_nil)
      (pss_cons (ps_asg (pe_op op_add (pe_ix ix_list (pv 0) pe_int (fun _ _ => rfl)) pe_int) (pg_sub (pv 0) pe_int set_list))
      (pss_cons (ps_set (i := 3) scPull.nd rfl (Or.inl rfl) (pe_op op_mod (pe_callTy call_int1 (by rfl) T.int (by decide +kernel) (pa_cons (pe_op op_add (pe_ix ix_list (pv 0) pe_int (fun _ _ => rfl)) (pe_op op_mul pe_int (pe_ix ix_list (pv 0) pe_int (fun _ _ => rfl)))) pa_nil)) pe_int))
      (pss_cons (ps_set (i := 4) scPull.nd rfl (Or.inl rfl) (pe_op op_mul (pe_op op_mod (pe_callTy call_int1 (by rfl) T.int (by decide +kernel) (pa_cons (pe_op op_mul (pv 3) (pv 3)) pa_nil)) pe_int) (pv 3)))
      (pss_one (ps_ret (pe_op op_mod (pe_callTy call_int1 (by rfl) T.int (by decide +kernel) (pa_cons (pe_op op_fdiv (pe_op op_mod (pe_callTy call_int1 (by rfl) T.int (by decide +kernel) (pa_cons (pe_op op_add (pv 4) (pe_op op_mul pe_int (pe_ix ix_list (pv 0) pe_int (fun _ _ => rfl)))) pa_nil)) pe_int) pe_int) pa_nil)) (pv 1))))))), ?_⟩
    have h0 := D.at_
    refine ⟨_, rfl, p, _, _, .int x, rfl, rfl, SqL.of h0, rfl, _, _, rfl, rfl, _, rfl, ?_⟩
    refine ite2 (fun hgt => ?_) (fun _ => ?_)
    · have hx : 0 < x := of_decide_eq_true hgt
      refine ⟨_, rfl, p, _, _, .int x, rfl, rfl, SqL.of h0, rfl, .inl ⟨_, rfl, _, rfl, _, _, rfl, rfl, hn0, ?_⟩⟩
      refine ⟨_, rfl, p, _, _, .int x, rfl, rfl, SqL.of h0, rfl, _, rfl, _, _, rfl, rfl, ⟨hn0, by omega⟩, _, rfl, p, _, _, 0, rfl, rfl, h0, rfl, ?_⟩
      have hq : (0 : Int) ≤ x / n := Int.ediv_nonneg D.x0 (by omega)
      have hq2 : x / n ≤ x := Int.ediv_le_self n D.x0
      exact ⟨_, rfl, k _ _ z _ (Int.emod_nonneg _ (by omega)) (Int.emod_lt_of_pos _ hn0) ⟨upd_same, hq, Nat.lt_of_le_of_lt (by omega) D.x1, D.y0, D.y1, D.z0⟩ (by omega) fun b o hb e => by rw [upd_ne hb] <;> exact e⟩
    · refine ⟨_, rfl, p, _, _, .int z, rfl, rfl, SqL.of h0, rfl, _, _, rfl, rfl, _, rfl, p, _, _, 2, rfl, rfl, h0, rfl, ?_⟩
      have h1 : (upd H p (.lst [.int x, .int y, .int (z + 1)])) p = some (.lst [.int x, .int y, .int (z + 1)]) := upd_same
      refine ⟨_, rfl, p, _, _, .int y, rfl, rfl, SqL.of h1, rfl, _, rfl, p, _, _, .int (z + 1), rfl, rfl, SqL.of h1, rfl, _, _, rfl, rfl, .inl ⟨by decide, by decide⟩, _, _, rfl, rfl, .inl ⟨_, rfl, _, _, rfl, rfl, (by show (0 : Int) < 2305843009213693951; decide), ?_⟩⟩
      have a1 := Int.emod_nonneg (y + 1000159 * (z + 1)) (show (2305843009213693951 : Int) ≠ 0 by decide)
      have a2 := Int.emod_lt_of_pos (y + 1000159 * (z + 1)) (show (0 : Int) < 2305843009213693951 by decide)
      generalize (y + 1000159 * (z + 1)) % 2305843009213693951 = one at a1 a2 ⊢
      refine ⟨_, rfl, _, rfl, _, _, rfl, rfl, .inl ⟨by omega, by omega⟩, .inl ⟨_, rfl, _, _, rfl, rfl, (by show (0 : Int) < 2305843009213693907; decide), _, rfl, _, _, rfl, rfl, .inr ⟨by omega, by omega⟩, ?_⟩⟩
      refine ⟨_, rfl, _, rfl, p, _, _, .int (z + 1), rfl, rfl, SqL.of h1, rfl, _, _, rfl, rfl, .inl ⟨by decide, by decide⟩, _, _, rfl, rfl, .inl ⟨_, rfl, _, _, rfl, rfl, (by show (0 : Int) < 2305843009213693921; decide), _, _, rfl, rfl, ⟨by decide, by decide⟩, .inl ⟨_, rfl, _, rfl, _, _, rfl, rfl, hn0, ?_⟩⟩⟩
      exact k _ x (z + 1) _ (Int.emod_nonneg _ (by omega)) (Int.emod_lt_of_pos _ hn0) ⟨h1, D.x0, D.x1, D.y0, D.y1, by have := D.z0; omega⟩ (Int.le_refl _) fun b o hb e => by rw [upd_ne hb] <;> exact e
theorem scPick : FnScope ["_law_dice_here", "_law_items"] ["_law_dice_here", "_law_items"] (defScope sPick) := ⟨rfl, rfl, rfl, by decide +kernel, rfl, by decide +kernel, by decide +kernel⟩
theorem ok_pick {f fU : Addr} {fd fdU : FuncData} (F : Fun K "_law_pick" "_law_pick" sPick f fd) (T : Bare mg) (FU : Fun K "_law_pull" "_law_pull" sPull fU fdU) (bU : Binds K fdU ["_law_dice_here", "_law_total"] []) (mU : mg "_law_pull" = some (.ref fU)) : FnOk P w K mg base CX0 2 f fd ["_law_dice_here", "_law_items"] spPick := by
  have GU : FnOk P w K mg base CX0 1 fU fdU ["_law_dice_here", "_law_total"] spPull := ok_pull FU T
  refine F.ok scPick (fun vs H Q E h => ?_) (fun cdv A outer s H vs Q E hr h => ?_)
  · obtain ⟨p, q, x, y, z, xs, rfl, _⟩ := h
    rfl
  · obtain ⟨p, q, x, y, z, xs, rfl, D, hpq, hq, h0, h1, k⟩ := h
    refine ⟨_, pss_one (ps_ret (pe_ix ix_list (pv 1) (pe_call GU hr (by rfl) mU FU.kp bU .nil pass0 (pa_cons (pv 0) (pa_cons (pe_callB call_len_seq (by rfl) T.len PySem.boot_len (pa_cons (pv 1) pa_nil)) pa_nil))) (fun _ _ => rfl))), ?_⟩
    refine ⟨_, rfl, _, rfl, _, rfl, q, _, rfl, .inl (SqL.of hq), p, x, y, z, _, rfl, D, by omega, by omega, fun r x' z' H' r0 r1 D' hz hk => ?_⟩
    obtain ⟨j, rfl⟩ : ∃ j : Nat, r = (j : Int) := ⟨r.toNat, by omega⟩
    have hj : j < xs.length := by omega
    exact ⟨q, xs, _, xs[j], rfl, rfl, SqL.of (hk q _ hpq.symm hq), atI_nat (List.getElem?_eq_getElem hj), k j _ x' z' H' (List.getElem?_eq_getElem hj) D' hz hk⟩
theorem Dice.same {H H' : Hp} {p : Addr} {x y z : Int} (D : Dice H p x y z) (s : Same H H') : Dice H' p x y z := ⟨s _ _ D.at_, D.x0, D.x1, D.y0, D.y1, D.z0⟩
theorem Dice.upd {H : Hp} {p q : Addr} {x y z : Int} {o : HO} (D : Dice H p x y z) (h : H q = none) : Dice (upd H q o) p x y z := ⟨by rw [upd_ne (ne_of_none D.at_ h)] <;> exact D.at_, D.x0, D.x1, D.y0, D.y1, D.z0⟩
end
end M46
/-! The kinds drawn. -/
namespace M46
open PySem PySem.Spec PyProof.Rows L2 R0 K1

/-- the kind drawn at place i -/
def Wn (i n : Nat) (k : S) : Prop := ∃ (c : Nat) (r : List Nat), k.cps.toList = c :: r ∧ 97 + 3 * i ≤ c ∧ c < 100 + 3 * i ∧ c ≤ 122 ∧ r.length ≤ n ∧ ∀ d ∈ r, low d = true
def Kinds (ks : List S) : Prop := ks.length ≤ 5 ∧ ∀ i k, ks[i]? = some k → Wn i 2 k
theorem wn_nm {i n : Nat} {k : S} (h : Wn i n k) (hn : n ≤ 2) : nm k = true ∧ k.length ≤ 3 := by
  obtain ⟨c, r, e, h1, h2, h3, h4, h5⟩ := h
  have hl : k.length = r.length + 1 := by
    show k.cps.size = _
    rw [← Array.length_toList, e, List.length_cons]
  refine ⟨?_, by omega⟩
  unfold nm
  rw [decide_eq_true (show 1 ≤ k.length by omega), decide_eq_true (show k.length ≤ 8 by omega), e, List.all_cons]
  have hc : low c = true := by unfold low; simp; omega
  rw [hc]
  simpa using h5
theorem kinds_nodup : ∀ {ks : List S}, (∀ i k, ks[i]? = some k → Wn i 2 k) → ks.Nodup := by
  intro ks h
  show ks.Pairwise (· ≠ ·)
  rw [List.pairwise_iff_getElem]
  intro i j hi hj hij e
  obtain ⟨c, r, e1, a1, a2, _⟩ := h i ks[i] (List.getElem?_eq_getElem hi)
  obtain ⟨c', r', e2, b1, b2, _⟩ := h j ks[j] (List.getElem?_eq_getElem hj)
  rw [e, e2] at e1
  injection e1 with e3 _
  omega
def spNames : Sp := fun vs H Q _ => ∃ (p : Addr) (x y z : Int) (m : Nat), vs = [.ref p, .int (m : Int)] ∧ Dice H p x y z ∧ m ≤ 5 ∧
  ∀ (q : Addr) (ks : List S) (x' z' : Int) (H' : Hp), Dice H' p x' y z' → (∀ b o, b ≠ p → H b = some o → H' b = some o) → H q = none → H' q = some (.lst (ks.map V.str)) → ks.length = m → Kinds ks → Q (.ref q) H'
theorem alpha_at {i : Nat} (h : i < 26) : alpha.cps.toList[i]? = some (97 + i) := by
  rw [alpha_list, List.getElem?_map, List.getElem?_range h]
  rfl
theorem alpha_len : alpha.length = 26 := by decide +kernel
theorem five_at : ∀ (j : Nat) (v : V), ([.int 0, .int 0, .int 0, .int 1, .int 2] : List V)[j]? = some v → ∃ m : Nat, v = .int (m : Int) ∧ m ≤ 2 := fun j v hv => match j, hv with
  | 0, hv => by cases hv; exact ⟨0, rfl, by decide⟩
  | 1, hv => by cases hv; exact ⟨0, rfl, by decide⟩
  | 2, hv => by cases hv; exact ⟨0, rfl, by decide⟩
  | 3, hv => by cases hv; exact ⟨1, rfl, by decide⟩
  | 4, hv => by cases hv; exact ⟨2, rfl, by decide⟩
  | j + 5, hv => by simp at hv
abbrev nNames : List S := ["_law_dice_here", "_law_total", "_law_alphabet", "_law_found", "_law_at", "_law_word", "_law_turn_here"]
section
variable {P : Program} {w : World} {K : PySem.W.Frag} {mg : PySem.Str → Option Value} {base : Heap}
theorem scNames : FnScope nNames ["_law_dice_here", "_law_total"] (defScope sNames) := ⟨rfl, rfl, rfl, by decide +kernel, rfl, by decide +kernel, by decide +kernel⟩
theorem ok_names {f fU : Addr} {fd fdU : FuncData} (F : Fun K "_law_names" "_law_names" sNames f fd) (T : Bare mg) (FU : Fun K "_law_pull" "_law_pull" sPull fU fdU) (bU : Binds K fdU ["_law_dice_here", "_law_total"] []) (mU : mg "_law_pull" = some (.ref fU)) : FnOk P w K mg base CX0 2 f fd ["_law_dice_here", "_law_total"] spNames := by
  have GU : FnOk P w K mg base CX0 1 fU fdU ["_law_dice_here", "_law_total"] spPull := ok_pull FU T
  refine F.ok scNames (fun vs H Q E h => ?_) (fun cdv A outer s H vs Q E hr h => ?_)
  · obtain ⟨p, x, y, z, m, rfl, _⟩ := h
    rfl
  · obtain ⟨p, x, y, z, m, rfl, D, hm, q⟩ := h
    have hr1 : Room 1 _ := hr
    refine ⟨_, (pss_cons (ps_par (i := 2) (j := 3) rfl scNames.nd rfl rfl (by decide) rfl rfl (pa_cons pe_str (pa_cons (pe_lst pa_nil) pa_nil)) (by rfl))
      (pss_cons (ps_for PassesOwn.never rfl (pi_range1 (by rfl) T.rng (pa_cons (pv 1) pa_nil)) (pg_name (i := 4) scNames.nd rfl (Or.inl rfl)) (pss_cons (ps_set (i := 5) scNames.nd rfl (Or.inl rfl) (pe_ix ix_str (pv 2) (pe_op op_add (pe_op op_mul pe_int (pv 4)) (pe_call GU hr1 (by rfl) mU FU.kp bU .nil pass0 (pa_cons (pv 0) (pa_cons pe_int pa_nil)))) (fun _ _ => rfl)))
      (pss_cons (ps_for PassesOwn.never rfl (pi_range1 (by rfl) T.rng (pa_cons (pe_ix ix_list (pe_lst (pa_cons pe_int (pa_cons pe_int (pa_cons pe_int (pa_cons pe_int (pa_cons pe_int pa_nil)))))) (pe_call GU hr1 (by rfl) mU FU.kp bU .nil pass0 (pa_cons (pv 0) (pa_cons pe_int pa_nil))) (fun _ _ => rfl)) pa_nil)) (pg_name (i := 6) scNames.nd rfl (Or.inl rfl)) (pss_one (ps_set (i := 5) scNames.nd rfl (Or.inl rfl) (pe_op op_add_str (pv 5) (pe_ix ix_str (pv 2) (pe_call GU hr1 (by rfl) mU FU.kp bU .nil pass0 (pa_cons (pv 0) (pa_cons pe_int pa_nil))) (fun _ _ => rfl))))))
      (pss_one (ps_expr (pe_bm PySem.F.plainAttrs_list PySem.F.slot_list_append PySem.F.type_list_append mt_append (pv 3) (pa_cons (pv 5) pa_nil)))))))
      (pss_one (ps_ret (pv 3))))), ?_⟩
    refine ⟨Nat.zero_le _, fun l hl => ⟨_, _, rfl, ?_⟩⟩
    have npl : p ≠ l := ne_of_none D.at_ hl
    refine ⟨_, rfl, (m : Int), rfl, by omega, by omega, for_range (n := m) (fun i σ G => ∃ (ks : List S) (x' z' : Int) (v4 v5 v6 : Option V), σ = [some (.ref p), some (.int (m : Int)), some (.str alpha), some (.ref l), v4, v5, v6] ∧ G l = some (.lst (ks.map V.str)) ∧ ks.length = i ∧ (∀ j k, ks[j]? = some k → Wn j 2 k) ∧ Dice G p x' y z' ∧ ∀ b o, b ≠ p → H b = some o → G b = some o)
      ⟨[], x, z, none, none, none, rfl, upd_same, rfl, fun j k e => by simp at e, D.upd hl, fun b o hb e => by rw [upd_ne (ne_of_none e hl)]; exact e⟩ ?_ ?_⟩
    · rintro i σ G hi ⟨ks, x1, z1, v4, v5, v6, rfl, hG, hks, hW, D1, s1⟩
      refine ⟨_, rfl, _, rfl, _, _, rfl, rfl, .inl ⟨by decide, by decide⟩, _, rfl, p, x1, y, z1, 3, rfl, D1, by decide, by decide, fun r x2 z2 G2 r0 r1 D2 hz2 s2 => ?_⟩
      obtain ⟨rn, rfl⟩ : ∃ rn : Nat, r = (rn : Int) := ⟨r.toNat, by omega⟩
      have ei : (3 * (0 + (i : Int)) + (rn : Int) : Int) = ((3 * i + rn : Nat) : Int) := by omega
      have hal := alpha_len
      refine ⟨_, _, rfl, rfl, alpha, _, 97 + (3 * i + rn), rfl, rfl, by rw [hal, sizeLine_eq]; decide, (by rw [ei]; exact atI_nat (alpha_at (by omega))), ?_⟩
      have hG2 := s2 _ _ npl.symm hG
      refine ⟨by rw [sizeLine_eq]; decide, fun u hu => ?_⟩
      have npu : p ≠ u := ne_of_none D2.at_ hu
      have nlu : l ≠ u := ne_of_none hG2 hu
      refine ⟨_, rfl, p, x2, y, z2, 5, rfl, D2.upd hu, by decide, by decide, fun r2 x3 z3 G3 a0 a1 D3 hz3 s3 => ?_⟩
      obtain ⟨an, rfl⟩ : ∃ an : Nat, r2 = (an : Int) := ⟨r2.toNat, by omega⟩
      have hu3 := s3 u _ npu.symm upd_same
      obtain ⟨v, hv⟩ : ∃ v, ([.int 0, .int 0, .int 0, .int 1, .int 2] : List V)[an]? = some v := ⟨_, List.getElem?_eq_getElem (by show an < 5; omega)⟩
      obtain ⟨m2, rfl, hm2⟩ := five_at an v hv
      refine ⟨u, _, _, .int (m2 : Int), rfl, rfl, SqL.of hu3, atI_nat hv, (m2 : Int), rfl, by omega, by omega, ?_⟩
      have sG : ∀ b o, b ≠ p → H b = some o → G3 b = some o := fun b o hb e => s3 b o hb (by rw [upd_ne (ne_of_none (s2 b o hb (s1 b o hb e)) hu)]; exact s2 b o hb (s1 b o hb e))
      have hG3 : G3 l = some (.lst (ks.map V.str)) := s3 l _ npl.symm (by rw [upd_ne nlu]; exact hG2)
      refine for_range (n := m2) (fun j σ G => ∃ (k : S) (x' z' : Int) (v6 : Option V), σ = [some (.ref p), some (.int (m : Int)), some (.str alpha), some (.ref l), some (.int (0 + (i : Int))), some (.str k), v6] ∧ Wn i j k ∧ G l = some (.lst (ks.map V.str)) ∧ Dice G p x' y z' ∧ ∀ b o, b ≠ p → H b = some o → G b = some o)
        ⟨⟨#[97 + (3 * i + rn)]⟩, x3, z3, v6, rfl, ⟨_, [], rfl, by omega, by omega, by omega, Nat.zero_le _, fun d h => by cases h⟩, hG3, D3, sG⟩ ?_ ?_
      · rintro j σ G4 hj ⟨k, x4, z4, w6, rfl, ⟨c, rs, e, c1, c2, c3, c4, c5⟩, hG4, D4, s4⟩
        have hkl : k.length = rs.length + 1 := by
          show k.cps.size = _
          rw [← Array.length_toList, e, List.length_cons]
        refine ⟨_, rfl, _, rfl, _, rfl, p, x4, y, z4, 26, rfl, D4, by decide, by decide, fun r4 x5 z5 G5 d0 d1 D5 hz5 s5 => ?_⟩
        obtain ⟨dn, rfl⟩ : ∃ dn : Nat, r4 = (dn : Int) := ⟨r4.toNat, by omega⟩
        refine ⟨alpha, _, 97 + dn, rfl, rfl, by rw [hal, sizeLine_eq]; decide, atI_nat (alpha_at (by omega)), _, _, rfl, rfl, ?_, ?_⟩
        · rw [hkl, sizeLine_eq]
          show rs.length + 1 + 1 ≤ _
          omega
        · refine ⟨k ++ ⟨#[97 + dn]⟩, x5, z5, _, rfl, ⟨c, rs ++ [97 + dn], ?_, c1, c2, c3, by rw [List.length_append, List.length_singleton]; omega, fun d hd => ?_⟩, s5 _ _ npl.symm hG4, D5, fun b o hb eb => s5 b o hb (s4 b o hb eb)⟩
          · show (k.cps ++ #[97 + dn]).toList = _
            rw [Array.toList_append, e]
            rfl
          · rcases List.mem_append.mp hd with hd | hd
            · exact c5 d hd
            · rw [List.mem_singleton.mp hd]
              unfold low
              simp
              omega
      · rintro σ G4 ⟨k, x4, z4, w6, rfl, hW4, hG4, D4, s4⟩
        have hks5 : ks.length ≤ 5 := by omega
        refine ⟨_, rfl, .inl ⟨rfl, _, SqL.of hG4⟩, _, rfl, l, _, _, rfl, rfl, hG4, by rw [List.length_map, sizeLine_eq]; omega, ?_⟩
        refine ⟨ks ++ [k], x4, z4, _, _, _, rfl, upd_same.trans (by rw [List.map_append]; rfl), by rw [List.length_append, List.length_singleton, hks], fun j k' hj => ?_, ⟨by rw [upd_ne npl]; exact D4.at_, D4.x0, D4.x1, D4.y0, D4.y1, D4.z0⟩, fun b o hb eb => by rw [upd_ne (ne_of_none eb hl)]; exact s4 b o hb eb⟩
        by_cases hjl : j < ks.length
        · rw [List.getElem?_append_left hjl] at hj
          exact hW j k' hj
        · rw [List.getElem?_append_right (by omega)] at hj
          have hj0 : j - ks.length = 0 := by
            cases h : j - ks.length with
            | zero => rfl
            | succ n => rw [h] at hj; simp at hj
          rw [hj0] at hj
          obtain rfl : k = k' := by simpa using hj
          have : j = i := by omega
          subst this
          obtain ⟨c, rs, e, c1, c2, c3, c4, c5⟩ := hW4
          exact ⟨c, rs, e, c1, c2, c3, by omega, c5⟩
    · rintro σ G ⟨ks, x1, z1, v4, v5, v6, rfl, hG, hks, hW, D1, s1⟩
      exact ⟨_, rfl, q l ks x1 z1 G D1 s1 hl hG hks ⟨by omega, hW⟩⟩
end
end M46
/-! The words drawn. -/
namespace M46
open PySem PySem.Spec PyProof.Rows L2 R0 K1

/-- a drawn plan: words of some of the kinds, and of the others -/
structure Plan (ks : List S) (pl : List (S × S)) : Prop where
  keys : ∀ k ∈ pl.map (·.1), k ∈ ks ∨ k = oth
  nd : (pl.map (·.1)).Nodup
  vs : ∀ v ∈ pl.map (·.2), v ∈ W3
  has : oth ∈ pl.map (·.1)
  len : pl.length ≤ 8
def spWords : Sp := fun vs H Q _ => ∃ (p q : Addr) (x y z : Int) (ks : List S), vs = [.ref p, .ref q] ∧ Dice H p x y z ∧ H q = some (.lst (ks.map V.str)) ∧ Kinds ks ∧
  ∀ (d : Addr) (pl : List (S × S)) (x' z' : Int) (H' : Hp), Dice H' p x' y z' → (∀ b o, b ≠ p → H b = some o → H' b = some o) → H d = none → H' d = some (.dK (wd pl)) → Plan ks pl → Q (.ref d) H'
theorem kinds_at {ks : List S} (h : Kinds ks) {k : S} (hk : k ∈ ks) : nm k = true ∧ k.length ≤ 3 := by
  obtain ⟨i, hi, e⟩ := List.mem_iff_getElem.mp hk
  exact wn_nm (h.2 i k (by rw [List.getElem?_eq_getElem hi, e])) (Nat.le_refl _)
theorem kinds_oth {ks : List S} (h : Kinds ks) : oth ∉ ks := fun hk => by
  have := (kinds_at h hk).2
  exact absurd this (by decide +kernel)
theorem w3_mem {j : Nat} {v : V} (h : ([.str w0, .str w1, .str w2] : List V)[j]? = some v) : ∃ x : S, v = .str x ∧ x ∈ W3 := match j, h with
  | 0, h => by cases h; exact ⟨w0, rfl, by simp [W3]⟩
  | 1, h => by cases h; exact ⟨w1, rfl, by simp [W3]⟩
  | 2, h => by cases h; exact ⟨w2, rfl, by simp [W3]⟩
  | j + 3, h => by simp at h
abbrev nWords : List S := ["_law_dice_here", "_law_kinds", "_law_words_here", "_law_found", "_law_kind"]
section
variable {P : Program} {w : World} {K : PySem.W.Frag} {mg : PySem.Str → Option Value} {base : Heap}
theorem scWords : FnScope nWords ["_law_dice_here", "_law_kinds"] (defScope sWords) := ⟨rfl, rfl, rfl, by decide +kernel, rfl, by decide +kernel, by decide +kernel⟩
theorem ok_words {f fU fP : Addr} {fd fdU fdP : FuncData} (F : Fun K "_law_words" "_law_words" sWords f fd) (T : Bare mg) (FU : Fun K "_law_pull" "_law_pull" sPull fU fdU) (bU : Binds K fdU ["_law_dice_here", "_law_total"] []) (mU : mg "_law_pull" = some (.ref fU))
    (FP : Fun K "_law_pick" "_law_pick" sPick fP fdP) (bP : Binds K fdP ["_law_dice_here", "_law_items"] []) (mP : mg "_law_pick" = some (.ref fP)) : FnOk P w K mg base CX0 3 f fd ["_law_dice_here", "_law_kinds"] spWords := by
  have GU : FnOk P w K mg base CX0 1 fU fdU ["_law_dice_here", "_law_total"] spPull := ok_pull FU T
  have GP : FnOk P w K mg base CX0 2 fP fdP ["_law_dice_here", "_law_items"] spPick := ok_pick FP T FU bU mU
  refine F.ok scWords (fun vs H Q E h => ?_) (fun cdv A outer s H vs Q E hr h => ?_)
  · obtain ⟨p, q, x, y, z, ks, rfl, _⟩ := h
    rfl
  · obtain ⟨p, q, x, y, z, ks, rfl, D, hq, hk, k⟩ := h
    have hr1 : Room 1 _ := hr.mono (by decide)
    have hr2 : Room 2 _ := hr
    have hu := hu_of hr
    have hsz : (1000 : Nat) ≤ sizeLine := by rw [sizeLine_eq]; decide
    refine ⟨_, (pss_cons (ps_par (i := 2) (j := 3) rfl scWords.nd rfl rfl (by decide) rfl rfl (pa_cons (pe_lst (pa_cons pe_str (pa_cons pe_str (pa_cons pe_str pa_nil)))) (pa_cons pe_dnewK pa_nil)) (by rfl))
      (pss_cons (ps_for PassesOwn.never rfl (pi_list (pv 1)) (pg_name (i := 4) scWords.nd rfl (Or.inl rfl)) (pss_one (ps_if (PW.pt (pw_and (pt_cmpR op_ne (pv 4) pe_str (nomark _)) (pw_and1 (pt_cmpR op_gt (pe_call GU hr1 (by rfl) mU FU.kp bU .nil pass0 (pa_cons (pv 0) (pa_cons pe_int pa_nil))) pe_int (nomark _))))) (pss_one (ps_dput hu (pv 3) (pv 4) (pe_call GP hr2 (by rfl) mP FP.kp bP .nil pass0 (pa_cons (pv 0) (pa_cons (pv 2) pa_nil))) rfl)) pss_nil)))
      (pss_cons (ps_dput hu (pv 3) pe_str (pe_call GP hr2 (by rfl) mP FP.kp bP .nil pass0 (pa_cons (pv 0) (pa_cons (pv 2) pa_nil))) rfl)
      (pss_one (ps_ret (pv 3)))))), ?_⟩
    refine ⟨by show 3 ≤ sizeLine; omega, fun l hl d hd => ⟨_, _, rfl, ?_⟩⟩
    have hl1 : (upd H l (.lst [.str w0, .str w1, .str w2])) l = some (.lst [.str w0, .str w1, .str w2]) := upd_same
    have nld : l ≠ d := ne_of_none hl1 hd
    have hd0 : H d = none := by rw [upd_ne nld.symm] at hd; exact hd
    have npl : p ≠ l := ne_of_none D.at_ hl
    have npd : p ≠ d := ne_of_none D.at_ hd0
    have nqp : q ≠ p := ne_of hq D.at_ (by
      intro e
      injection e with e
      cases ks with
      | nil => cases e
      | cons a ks => cases e)
    have s0 : Same H (upd (upd H l (.lst [.str w0, .str w1, .str w2])) d (.dK [])) := (same_upd hl).trans (same_upd hd)
    refine ⟨_, rfl, q, rfl, ⟨_, SqL.of (s0 _ _ hq)⟩, for_list (K := K) (a := q) (xs := ks.map V.str) (fun i σ G => ∃ (ps : List (S × S)) (x' z' : Int) (v4 : Option V), σ = [some (.ref p), some (.ref q), some (.ref l), some (.ref d), v4] ∧ G d = some (.dK (wd ps)) ∧ (∀ k ∈ ps.map (·.1), k ∈ ks) ∧ (ps.map (·.1)).Nodup ∧ (∀ v ∈ ps.map (·.2), v ∈ W3) ∧ ps.length ≤ i ∧ G l = some (.lst [.str w0, .str w1, .str w2]) ∧ Dice G p x' y z' ∧ ∀ b o, b ≠ p → H b = some o → G b = some o)
      ⟨[], x, z, none, rfl, upd_same, fun k h => (by cases h), .nil, fun k h => (by cases h), Nat.le_refl _, by rw [upd_ne nld]; exact hl1, (D.upd hl).upd hd, fun b o _ e => s0 b o e⟩ (fun i σ G _ ⟨ps, x', z', v4, e1, e2, e3, e4, e5, e6, e7, e8, e9⟩ => SqL.of (e9 q _ nqp hq)) ?_ ?_⟩
    · rintro i v σ G hi ⟨ps, x1, z1, v4, rfl, hG, h1, h2, h3, h4, hGl, D1, s1⟩
      obtain ⟨kd, hkd, rfl⟩ : ∃ kd, kd ∈ ks ∧ v = .str kd := by
        rw [List.getElem?_map] at hi
        cases e : ks[i]? with
        | none => rw [e] at hi; cases hi
        | some k => rw [e] at hi; exact ⟨k, List.mem_of_getElem? e, (Option.some.inj hi).symm⟩
      have hi5 : i < 5 := by
        have := (List.getElem?_eq_some_iff.mp hi).1
        rw [List.length_map] at this
        have := hk.1
        omega
      have hne : decide (V.str kd = V.str "other") = false := decide_eq_false fun e => kinds_oth hk (by rw [show oth = kd from (V.str.inj e).symm]; exact hkd)
      refine ⟨_, rfl, rfl, _, rfl, ?_⟩
      rw [hne]
      refine ⟨_, rfl, p, x1, y, z1, 4, rfl, D1, by decide, by decide, fun r x2 z2 G2 r0 r1 D2 hz2 s2 => ?_⟩
      have sG2 : ∀ b o, b ≠ p → H b = some o → G2 b = some o := fun b o hb e => s2 b o hb (s1 b o hb e)
      have hG2 := s2 _ _ npd.symm hG
      have hGl2 := s2 _ _ npl.symm hGl
      refine ⟨_, _, rfl, rfl, _, rfl, ?_⟩
      refine ite2 (fun _ => ?_) (fun _ => ?_)
      · refine ⟨_, rfl, _, rfl, p, l, x2, y, z2, _, rfl, D2, npl, hGl2, by show 0 < 3; decide, by show 3 < 1000; decide, fun j v x3 z3 G3 hv D3 hz3 s3 => ?_⟩
        obtain ⟨wv, rfl, hwv⟩ := w3_mem hv
        have hG3 := s3 _ _ npd.symm hG2
        refine ⟨_, rfl, _, rfl, d, _, rfl, DPut.k (k := Sum.inr kd) hG3 (by rw [wd_len]; omega), ?_⟩
        rw [put_wd]
        refine ⟨putS ps kd wv, x3, z3, _, rfl, upd_same, fun k' hk' => ?_, nodup_put h2, vals_put h3 hwv, by have := len_put (k := kd) (v := wv) (ws := ps); omega, ?_, ?_, fun b o hb e => ?_⟩
        · rcases mem_put.mp hk' with z | z
          · exact h1 k' z
          · rw [z]; exact hkd
        · rw [upd_ne nld]; exact s3 _ _ npl.symm hGl2
        · exact ⟨by rw [upd_ne npd]; exact D3.at_, D3.x0, D3.x1, D3.y0, D3.y1, D3.z0⟩
        · rw [upd_ne (ne_of_none e hd0)]
          exact s3 b o hb (sG2 b o hb e)
      · exact ⟨ps, x2, z2, _, rfl, hG2, h1, h2, h3, by omega, hGl2, D2, sG2⟩
    · rintro σ G ⟨ps, x1, z1, v4, rfl, hG, h1, h2, h3, h4, hGl, D1, s1⟩
      rw [List.length_map] at h4
      have hk5 := hk.1
      refine ⟨_, rfl, _, rfl, p, l, x1, y, z1, _, rfl, D1, npl, hGl, by show 0 < 3; decide, by show 3 < 1000; decide, fun j v x3 z3 G3 hv D3 hz3 s3 => ?_⟩
      obtain ⟨wv, rfl, hwv⟩ := w3_mem hv
      have hG3 := s3 _ _ npd.symm hG
      refine ⟨_, rfl, d, _, rfl, DPut.k (k := Sum.inr oth) hG3 (by rw [wd_len]; omega), ?_⟩
      rw [put_wd]
      refine ⟨_, rfl, k d (putS ps oth wv) x3 z3 _ ⟨by rw [upd_ne npd]; exact D3.at_, D3.x0, D3.x1, D3.y0, D3.y1, D3.z0⟩ (fun b o hb e => ?_) hd0 upd_same ⟨fun k' hk' => ?_, nodup_put h2, vals_put h3 hwv, mem_put.mpr (.inr rfl), by have := len_put (k := oth) (v := wv) (ws := ps); omega⟩⟩
      · rw [upd_ne (ne_of_none e hd0)]
        exact s3 b o hb (s1 b o hb e)
      · rcases mem_put.mp hk' with z | z
        · exact .inl (h1 k' z)
        · exact .inr z
end
end M46
/-! What the law tells of a plan. -/
namespace M46
open PySem PySem.Spec PyProof.Rows L2 R0 K1 LiI

def rAS : R2 := fun x y H Q => ∃ i j, x = .str i ∧ y = .str j ∧ i.length + j.length ≤ sizeLine ∧ Q (.str (i ++ j)) H
theorem op_as {X : Cx} : OpR X (binaryOp .Add) rAS := op_add_str
def spTold : Sp := fun vs H Q _ => ∃ (d : Addr) (pl : List (S × S)), vs = [.ref d] ∧ H d = some (.dK (wd pl)) ∧ Wok pl ∧ oth ∈ pl.map (·.1) ∧
  ∀ (q : Addr) (us : List (S × S)) (H' : Hp), Same H H' → H q = none → Canon pl us (rest pl) → H' q = some (.lst ((us.map (·.1)).map V.str)) → Q (.ref q) H'
def spText : Sp := fun vs H Q _ => ∃ (d : Addr) (pl : List (S × S)), vs = [.ref d] ∧ H d = some (.dK (wd pl)) ∧ Wok pl ∧ oth ∈ pl.map (·.1) ∧
  ∀ (us : List (S × S)) (H' : Hp), Same H H' → Canon pl us (rest pl) → Q (.str (txt us (rest pl))) H'
def spAll : Sp := fun vs H Q _ => ∃ (d q : Addr) (pl : List (S × S)) (ks : List S), vs = [.ref d, .ref q] ∧ H d = some (.dK (wd pl)) ∧ H q = some (.lst (ks.map V.str)) ∧ oth ∈ pl.map (·.1) ∧ ks.length ≤ 100 ∧
  ∀ (l : Addr) (H' : Hp), Same H H' → H l = none → H' l = some (.lst ((ks.map (gw pl (rest pl)) ++ [rest pl]).map V.str)) → Q (.ref l) H'
def spChanged : Sp := fun vs H Q _ => ∃ (d q : Addr) (k v : S) (pl : List (S × S)), vs = [.ref d, .ref q, .str k, .str v] ∧ H d = some (.dK (wd pl)) ∧ (pl.map (·.1)).Nodup ∧ pl.length ≤ 100 ∧
  ∀ (e : Addr) (H' : Hp), Same H H' → H e = none → H' e = some (.dK (wd (putS pl k v))) → Q (.ref e) H'
theorem fm_id : ∀ ks : List S, ((ks.map V.str).filterMap fun x => match x with | .str k => some (V.str k) | _ => none) = ks.map V.str
  | [] => rfl
  | k :: ks => by
    show V.str k :: ((ks.map V.str).filterMap _) = _
    rw [fm_id ks]
    rfl
theorem fm_str (f : S → S) : ∀ ks : List S, ((ks.map V.str).filterMap fun x => match x with | .str k => some (V.str (f k)) | _ => none) = (ks.map f).map V.str
  | [] => rfl
  | k :: ks => by
    show V.str (f k) :: ((ks.map V.str).filterMap _) = _
    rw [fm_str f ks]
    rfl
theorem fm_keep (f : S → S) (r : S) : ∀ ks : List S, ((ks.map V.str).filterMap fun x => match x with | .str k => if f k ≠ r then some (V.str k) else none | _ => none) = (keep ks f r).map V.str
  | [] => rfl
  | k :: ks => by
    unfold keep
    by_cases h : f k ≠ r
    · rw [List.map_cons, List.filterMap_cons_some (b := V.str k) (by show (if f k ≠ r then some (V.str k) else none) = _; rw [if_pos h]), fm_keep, List.filter_cons_of_pos (by simpa using h)]
      rfl
    · rw [List.map_cons, List.filterMap_cons_none (by show (if f k ≠ r then some (V.str k) else none) = _; rw [if_neg h]), fm_keep, List.filter_cons_of_neg (by simpa using h)]
      rfl
theorem str_at {ks : List S} {i : Nat} {x : V} (h : (ks.map V.str)[i]? = some x) : ∃ k, k ∈ ks ∧ x = .str k := by
  rw [List.getElem?_map] at h
  cases e : ks[i]? with
  | none => rw [e] at h; cases h
  | some k => rw [e] at h; exact ⟨k, List.mem_of_getElem? e, (Option.some.inj h).symm⟩
theorem dg_mem {H : Hp} {d : Addr} {pl : List (S × S)} {k : S} (h : H d = some (.dK (wd pl))) (hk : k ∈ pl.map (·.1)) : DGet H d (.str k) (some (.str (gw pl (rest pl) k))) := by
  rw [← val_mem (r := rest pl) hk]
  exact DGet.k (k := Sum.inr k) h
theorem rest_of {pl : List (S × S)} (h : oth ∈ pl.map (·.1)) : gw pl (rest pl) oth = rest pl := gw_any h
theorem mem_keep {ks : List S} {f : S → S} {r k : S} : k ∈ keep ks f r ↔ k ∈ ks ∧ f k ≠ r := by
  unfold keep
  rw [List.mem_filter, decide_eq_true_eq]
/-- what the kept ones are like -/
structure Kept (pl us : List (S × S)) (r : S) : Prop where
  fine : Fine us r
  nd : (us.map (·.1)).Nodup
  no : oth ∉ us.map (·.1)
  sub : ∀ k ∈ us.map (·.1), k ∈ pl.map (·.1)
  len : us.length ≤ pl.length
  val : ∀ k v, (k, v) ∈ us → v = gw pl (rest pl) k
theorem canon_kept {pl us : List (S × S)} {r : S} (ok : Wok pl) (c : Canon pl us r) : Kept pl us r := by
  obtain ⟨rfl, ys, s1, n1, h1, h2, h3, rfl⟩ := c
  have hk := kept_keys (ks := ys) (f := gw pl (rest pl)) (r := rest pl)
  have hw3 : ∀ k, gw pl (rest pl) k ∈ W3 := fun k => by
    by_cases m : k ∈ pl.map (·.1)
    · exact ok.vs _ (gw_mem m)
    · rw [gw_not m]; exact rest_w3 ok.vs
  have sub : ∀ k ∈ (kept ys (gw pl (rest pl)) (rest pl)).map (·.1), k ∈ pl.map (·.1) := fun k hk' => by
    rw [hk] at hk'
    exact Classical.byContradiction fun z => (mem_keep.mp hk').2 (gw_not z)
  have nd : ((kept ys (gw pl (rest pl)) (rest pl)).map (·.1)).Nodup := by rw [hk]; exact n1.filter _
  have len : (kept ys (gw pl (rest pl)) (rest pl)).length ≤ pl.length := by
    have := nodup_sub nd sub
    rw [List.length_map, List.length_map] at this
    exact this
  refine ⟨⟨fun k hk' => ?_, fun v hv => ?_, rest_w3 ok.vs, by have := ok.len; omega⟩, nd, fun hk' => ?_, sub, len, fun k v hkv => ?_⟩
  · rw [hk] at hk'
    exact h1 k (mem_keep.mp hk').1
  · unfold kept at hv
    rw [List.map_map] at hv
    obtain ⟨k, _, e⟩ := List.mem_map.mp hv
    have e' : gw pl (rest pl) k = v := e
    rw [← e']
    exact hw3 k
  · have hm := sub _ hk'
    rw [hk] at hk'
    exact (mem_keep.mp hk').2 (rest_of hm)
  · unfold kept at hkv
    obtain ⟨j, _, e⟩ := List.mem_map.mp hkv
    injection e with e1 e2
    rw [← e2, e1]
theorem kept_ent {pl us : List (S × S)} {r : S} (k : Kept pl us r) : (us.map (·.1)).map (fun k => (k ++ (" " : S)) ++ gw pl (rest pl) k) = us.map ent := by
  rw [List.map_map]
  refine List.map_congr_left fun x hx => ?_
  show (x.1 ++ (" " : S)) ++ gw pl (rest pl) x.1 = ent x
  rw [← k.val x.1 x.2 hx]
  rfl
theorem txt_sum {us : List (S × S)} {r : S} (fa : Fine us r) : ((us.map ent ++ [("other " : S) ++ r]).map (·.length)).sum + (us.map ent ++ [("other " : S) ++ r]).length * (", " : S).length ≤ 16777216 := by
  have lr := w3_len fa.r
  have lo : ("other " : S).length = 6 := by decide +kernel
  have hlen := fa.len
  have b1 : ((us.map ent ++ [("other " : S) ++ r]).map (·.length)).sum ≤ (us.map ent ++ [("other " : S) ++ r]).length * 16 := by
    have := sum_le (n := 16) (l := (us.map ent ++ [("other " : S) ++ r]).map (·.length)) fun x hx => by
      obtain ⟨y, hy, rfl⟩ := List.mem_map.mp hx
      rcases List.mem_append.mp hy with hy | hy
      · obtain ⟨z, hz, rfl⟩ := List.mem_map.mp hy
        exact ent_len (fa.nm _ (List.mem_map.mpr ⟨z, hz, rfl⟩)) (fa.vs _ (List.mem_map.mpr ⟨z, hz, rfl⟩))
      · rw [List.mem_singleton.mp hy, Str.length_append]
        omega
    rw [List.length_map] at this
    exact this
  have b2 : (", " : S).length = 2 := by decide +kernel
  rw [List.length_append, List.length_map] at b1 ⊢
  simp only [List.length_cons, List.length_nil] at b1 ⊢
  rw [b2]
  refine Nat.le_trans (Nat.add_le_add_right b1 _) ?_
  omega
section
variable {P : Program} {w : World} {K : PySem.W.Frag} {mg : PySem.Str → Option Value} {base : Heap}
theorem scTold : FnScope ["_law_plan", "_law_kind", "_law_name"] ["_law_plan"] (defScope sTold) := ⟨rfl, rfl, rfl, by decide +kernel, rfl, by decide +kernel, by decide +kernel⟩
theorem ok_told {f : Addr} {fd : FuncData} (F : Fun K "_law_told" "_law_told" sTold f fd) (T : Bare mg) : FnOk P w K mg base CX0 1 f fd ["_law_plan"] spTold := by
  refine F.ok scTold (fun vs H Q E h => ?_) (fun cdv A outer s H vs Q E hr h => ?_)
  · obtain ⟨d, pl, rfl, _⟩ := h
    rfl
  · obtain ⟨d, pl, rfl, hd, ok, ho, q⟩ := h
    have hu := hu_of hr
    have hpl := ok.len
    refine ⟨_, (pss_one (ps_ret (pe_lc (own := [("_law_kind", 1)]) (g := gName 1)  rfl scTold.nd (pi_list (pe_callB cr_sortedS (by rfl) T.sort (by decide +kernel) (pa_cons (pe_lock (pe_lc (own := [("_law_name", 2)]) (g := gName 2) (tt := tYes) rfl scTold.nd (pi_keys (pv 0)) (blkOk_by (own := [("_law_name", 2)]) (N := ["_law_plan", "_law_kind", "_law_name"]) (sc := defScope sTold) (by decide +kernel)) (fun _ _ _ _ _ => pg_name (i := 2) scTold.nd rfl (Or.inl rfl)) (fun _ _ _ _ _ => pts_nil) (fun _ _ _ _ _ => (pe_callTy SkE.call_str_str (by rfl) T.str (by decide +kernel) (pa_cons (pv 2) pa_nil))))) pa_nil))) (blkOk_by (own := [("_law_kind", 1)]) (N := ["_law_plan", "_law_kind", "_law_name"]) (sc := defScope sTold) (by decide +kernel)) (fun _ _ _ _ _ => pg_name (i := 1) scTold.nd rfl (Or.inl rfl)) (fun _ _ _ _ _ => (pts_one (pt_cmpR (r := rNe) (by exact op_ne) (pe_dget hu (pv 0) (pv 1) (fun _ _ => rfl)) (pe_dget hu (pv 0) pe_str (fun _ _ => rfl)) (nomark _)))) (fun _ _ _ _ _ => (pv 1))))), ?_⟩
    refine ⟨d, _, hd, trivial, fun od => ⟨_, rfl, d, od, rfl, .inl ⟨wd pl, upd_same, fun D n0 => ?_⟩⟩⟩
    have hdD : d ≠ D := ne_of_none upd_same n0
    have nD : H D = none := by rw [upd_ne hdD.symm] at n0; exact n0
    refine lc_ex (xs := ((wd pl).map fun kv => kV kv.1)) wk_keys (fun x => match x with | .str k => some (V.str k) | _ => none) (fun ys => by rw [upd_ne hdD, upd_same]) (by rw [List.length_map, wd_len]; omega) (fun i x ys R N hx hR hN => ⟨rfl, ?_⟩) ?_
    · rw [wd_keys] at hx
      obtain ⟨k, hk, rfl⟩ := str_at hx
      exact ⟨_, rfl, k, rfl, hR _ rfl⟩
    · refine ⟨by rw [upd_ne hdD, upd_same], ?_⟩
      rw [unlock_eq hd nD, wd_keys, fm_id]
      refine ⟨D, pl.map (·.1), rfl, SqL.of upd_same, by rw [List.length_map]; omega, fun ys p py sy hp => ?_⟩
      have s1 : Same H (upd (upd H D (.lst ((pl.map (·.1)).map V.str))) p (.lst (ys.map V.str))) := (same_upd nD).trans (same_upd hp)
      have hpp : (upd (upd H D (.lst ((pl.map (·.1)).map V.str))) p (.lst (ys.map V.str))) p = some (.lst (ys.map V.str)) := upd_same
      generalize upd (upd H D (.lst ((pl.map (·.1)).map V.str))) p (.lst (ys.map V.str)) = G at s1 hpp ⊢
      refine ⟨p, rfl, ⟨_, SqL.of hpp⟩, fun D2 m0 => ?_⟩
      have nD2 : H D2 = none := s1.free m0
      refine lc_ex (xs := ys.map V.str) wk_list (fun x => match x with | .str k => if gw pl (rest pl) k ≠ rest pl then some (V.str k) else none | _ => none) (fun zs => SqL.of (by rw [upd_ne (ne_of_none hpp m0)]; exact hpp)) (by rw [List.length_map, py.length_eq, List.length_map]; omega) (fun i x zs R N hx hR hN => ⟨rfl, ?_⟩) ?_
      · obtain ⟨k, hk, rfl⟩ := str_at hx
        have hd2 : (upd G D2 (.lst zs)) d = some (.dK (wd pl)) := by rw [upd_ne (ne_of_none (s1 _ _ hd) m0)]; exact s1 _ _ hd
        have g1 := dg_mem hd2 (py.mem_iff.mp hk)
        have g2 := dg_mem hd2 ho
        rw [rest_of ho] at g2
        refine ⟨_, rfl, _, rfl, d, _, rfl, g1, _, rfl, d, _, rfl, g2, rfl, _, rfl, ?_⟩
        refine ite2 (fun h1 => ?_) (fun h1 => ?_)
        · have hne : gw pl (rest pl) k ≠ rest pl := fun e => by
            rw [e] at h1
            simp at h1
          exact ⟨_, rfl, hR _ (by show (if gw pl (rest pl) k ≠ rest pl then _ else _) = _; rw [if_pos hne])⟩
        · have he : gw pl (rest pl) k = rest pl := by
            have h2 : decide (V.str (gw pl (rest pl) k) = V.str (rest pl)) = true := by
              cases e : decide (V.str (gw pl (rest pl) k) = V.str (rest pl)) with
              | true => rfl
              | false => exact absurd (by rw [e]; rfl) h1
            exact V.str.inj (of_decide_eq_true h2)
          exact hN (by show (if gw pl (rest pl) k ≠ rest pl then _ else _) = _; rw [if_neg (fun z => z he)])
      · rw [fm_keep]
        refine q D2 _ _ (s1.trans (same_upd m0)) nD2 (canon_of ok py sy) ?_
        rw [upd_same, kept_keys]
theorem scText : FnScope ["_law_plan", "_law_kind"] ["_law_plan"] (defScope sText) := ⟨rfl, rfl, rfl, by decide +kernel, rfl, by decide +kernel, by decide +kernel⟩
theorem ok_text {f fT : Addr} {fd fdT : FuncData} (F : Fun K "_law_text" "_law_text" sText f fd) (T : Bare mg) (FT : Fun K "_law_told" "_law_told" sTold fT fdT) (bT : Binds K fdT ["_law_plan"] []) (mT : mg "_law_told" = some (.ref fT)) : FnOk P w K mg base CX0 2 f fd ["_law_plan"] spText := by
  have GT : FnOk P w K mg base CX0 1 fT fdT ["_law_plan"] spTold := ok_told FT T
  refine F.ok scText (fun vs H Q E h => ?_) (fun cdv A outer s H vs Q E hr h => ?_)
  · obtain ⟨d, pl, rfl, _⟩ := h
    rfl
  · obtain ⟨d, pl, rfl, hd, ok, ho, q⟩ := h
    have hu := hu_of hr
    have hr1 : Room 1 _ := hr.mono (by decide)
    refine ⟨_, (pss_one (ps_ret (pe_join pe_str (pe_op op_cat (pe_lc (own := [("_law_kind", 1)]) (g := gName 1) (tt := tYes) rfl scText.nd (pi_list (pe_call GT hr1 (by rfl) mT FT.kp bT .nil pass0 (pa_cons (pv 0) pa_nil))) (blkOk_by (own := [("_law_kind", 1)]) (N := ["_law_plan", "_law_kind"]) (sc := defScope sText) (by decide +kernel)) (fun _ _ _ _ _ => pg_name (i := 1) scText.nd rfl (Or.inl rfl)) (fun _ _ _ _ _ => pts_nil) (fun _ _ _ _ _ => (pe_op (r := rAS) (by exact op_as) (pe_op (r := rAS) (by exact op_as) (pv 1) pe_str) (pe_dget hu (pv 0) (pv 1) (fun _ _ => rfl))))) (pe_lst (pa_cons (pe_op op_add_str pe_str (pe_dget hu (pv 0) pe_str (fun _ _ => rfl))) pa_nil)))))), ?_⟩
    refine ⟨⟨_, rfl⟩, _, rfl, d, pl, rfl, hd, ok, ho, fun q0 us G sG nq cn hq => ?_⟩
    have kp := canon_kept ok cn
    have hus := kp.fine.len
    refine ⟨q0, rfl, ⟨_, SqL.of hq⟩, fun D n0 => ?_⟩
    have hsz : (1000 : Nat) ≤ sizeLine := by rw [sizeLine_eq]; decide
    refine lc_ex (xs := (us.map (·.1)).map V.str) wk_list (fun x => match x with | .str k => some (V.str ((k ++ (" " : S)) ++ gw pl (rest pl) k)) | _ => none) (fun zs => SqL.of (by rw [upd_ne (ne_of_none hq n0)]; exact hq)) (by rw [List.length_map, List.length_map]; omega) (fun i x zs R N hx hR hN => ⟨rfl, ?_⟩) ?_
    · obtain ⟨k, hk, rfl⟩ := str_at hx
      have hd2 : (upd G D (.lst zs)) d = some (.dK (wd pl)) := by rw [upd_ne (ne_of_none (sG _ _ hd) n0)]; exact sG _ _ hd
      have g1 := dg_mem hd2 (kp.sub k hk)
      have l1 := nm_len (kp.fine.nm k hk)
      have l2 := w3_len (ok.vs _ (gw_mem (r := rest pl) (kp.sub k hk)))
      have l3 : (" " : S).length = 1 := by decide +kernel
      exact ⟨_, rfl, _, _, rfl, rfl, by omega, _, rfl, _, rfl, d, _, rfl, g1, _, _, rfl, rfl, by rw [Str.length_append]; omega, hR _ rfl⟩
    · rw [fm_str (fun k => (k ++ (" " : S)) ++ gw pl (rest pl) k), kept_ent kp]
      have s1 : Same H (upd G D (.lst ((us.map ent).map V.str))) := sG.trans (same_upd n0)
      have hD : (upd G D (.lst ((us.map ent).map V.str))) D = some (.lst ((us.map ent).map V.str)) := upd_same
      generalize upd G D (.lst ((us.map ent).map V.str)) = G2 at s1 hD ⊢
      have g2 := dg_mem (s1 _ _ hd) ho
      rw [rest_of ho] at g2
      have lr := w3_len kp.fine.r
      have lo : ("other " : S).length = 6 := by decide +kernel
      refine ⟨_, rfl, d, _, rfl, g2, _, _, rfl, rfl, by omega, by show 1 ≤ sizeLine; omega, fun l hl => ?_⟩
      refine ⟨D, l, _, _, rfl, rfl, by rw [upd_ne (ne_of_none hD hl)]; exact hD, upd_same, by rw [List.length_map, List.length_map]; simp only [List.length_cons, List.length_nil]; omega, fun p hp => ?_⟩
      exact ⟨", ", p, us.map ent ++ [("other " : S) ++ rest pl], rfl, rfl, .inl (SqL.of (upd_same.trans (by rw [List.map_append]; rfl))), txt_sum kp.fine, q us _ ((s1.trans (same_upd hl)).trans (same_upd hp)) cn⟩
theorem scAll : FnScope ["_law_plan", "_law_kinds", "_law_kind"] ["_law_plan", "_law_kinds"] (defScope sAll) := ⟨rfl, rfl, rfl, by decide +kernel, rfl, by decide +kernel, by decide +kernel⟩
theorem ok_all {f : Addr} {fd : FuncData} (F : Fun K "_law_all_words" "_law_all_words" sAll f fd) (T : Bare mg) : FnOk P w K mg base CX0 1 f fd ["_law_plan", "_law_kinds"] spAll := by
  refine F.ok scAll (fun vs H Q E h => ?_) (fun cdv A outer s H vs Q E hr h => ?_)
  · obtain ⟨d, q, pl, ks, rfl, _⟩ := h
    rfl
  · obtain ⟨d, q, pl, ks, rfl, hd, hq, ho, hl, k⟩ := h
    have hu := hu_of hr
    have hsz : (1000 : Nat) ≤ sizeLine := by rw [sizeLine_eq]; decide
    refine ⟨_, (pss_one (ps_ret (pe_op op_cat (pe_lc (own := [("_law_kind", 2)]) (g := gName 2) (tt := tYes) rfl scAll.nd (pi_list (pv 1)) (blkOk_by (own := [("_law_kind", 2)]) (N := ["_law_plan", "_law_kinds", "_law_kind"]) (sc := defScope sAll) (by decide +kernel)) (fun _ _ _ _ _ => pg_name (i := 2) scAll.nd rfl (Or.inl rfl)) (fun _ _ _ _ _ => pts_nil) (fun _ _ _ _ _ => (pe_dget2 hu (pv 0) (pv 2) (pe_dget hu (pv 0) pe_str (fun _ _ => rfl)) ⟨rfl, rfl, rfl, rfl⟩))) (pe_lst (pa_cons (pe_dget hu (pv 0) pe_str (fun _ _ => rfl)) pa_nil))))), ?_⟩
    refine ⟨_, rfl, q, rfl, ⟨_, SqL.of hq⟩, fun D n0 => ?_⟩
    refine lc_ex (xs := ks.map V.str) wk_list (fun x => match x with | .str k => some (V.str (gw pl (rest pl) k)) | _ => none) (fun zs => SqL.of (by rw [upd_ne (ne_of_none hq n0)]; exact hq)) (by rw [List.length_map]; omega) (fun i x zs R N hx hR hN => ⟨rfl, ?_⟩) ?_
    · obtain ⟨k, hk, rfl⟩ := str_at hx
      have hd2 : (upd H D (.lst zs)) d = some (.dK (wd pl)) := by rw [upd_ne (ne_of_none hd n0)]; exact hd
      have g2 := dg_mem hd2 ho
      rw [rest_of ho] at g2
      refine ⟨_, rfl, d, rfl, .inl ⟨_, .inl hd2⟩, _, rfl, _, rfl, d, _, rfl, g2, _, DGet.k (k := Sum.inr k) hd2, ?_⟩
      rw [val_gw]
      exact hR _ rfl
    · rw [fm_str (gw pl (rest pl))]
      have s1 : Same H (upd H D (.lst ((ks.map (gw pl (rest pl))).map V.str))) := same_upd n0
      have hD : (upd H D (.lst ((ks.map (gw pl (rest pl))).map V.str))) D = some (.lst ((ks.map (gw pl (rest pl))).map V.str)) := upd_same
      generalize upd H D (.lst ((ks.map (gw pl (rest pl))).map V.str)) = G2 at s1 hD ⊢
      have g2 := dg_mem (s1 _ _ hd) ho
      rw [rest_of ho] at g2
      refine ⟨_, rfl, d, _, rfl, g2, by show 1 ≤ sizeLine; omega, fun l hl => ?_⟩
      refine ⟨D, l, _, _, rfl, rfl, by rw [upd_ne (ne_of_none hD hl)]; exact hD, upd_same, by rw [List.length_map, List.length_map]; simp only [List.length_cons, List.length_nil]; omega, fun p hp => ?_⟩
      have s2 := (s1.trans (same_upd hl)).trans (same_upd (o := .lst ((ks.map (gw pl (rest pl))).map V.str ++ [V.str (rest pl)])) hp)
      refine k p _ s2 (((s1.trans (same_upd hl)).free hp)) (upd_same.trans (by rw [List.map_append]; rfl))
abbrev nChanged : List S := ["_law_plan", "_law_kinds", "_law_kind", "_law_word", "_law_found"]
theorem scChanged : FnScope nChanged ["_law_plan", "_law_kinds", "_law_kind", "_law_word"] (defScope sChanged) := ⟨rfl, rfl, rfl, by decide +kernel, rfl, by decide +kernel, by decide +kernel⟩
theorem paired_wd {G : Hp} {K : PySem.W.Frag} {ts : List Addr} {kvs : List (Key × V)} (h : Paired (fun (t : Addr) (q : Key × V) => G t = some (.tup [kV q.1, q.2])) ts kvs) : Paired (fun t q => SqT K G t [kV q.1, q.2]) ts kvs := Paired.mapP h fun a b e => .inl (.inl e)
theorem ok_changed {f : Addr} {fd : FuncData} (F : Fun K "_law_changed" "_law_changed" sChanged f fd) (T : Bare mg) : FnOk P w K mg base CX0 1 f fd ["_law_plan", "_law_kinds", "_law_kind", "_law_word"] spChanged := by
  refine F.ok scChanged (fun vs H Q E h => ?_) (fun cdv A outer s H vs Q E hr h => ?_)
  · obtain ⟨d, q, k, v, pl, rfl, _⟩ := h
    rfl
  · obtain ⟨d, q, k, v, pl, rfl, hd, nd, hl, kk⟩ := h
    have hu := hu_of hr
    have hsz : (1000 : Nat) ≤ sizeLine := by rw [sizeLine_eq]; decide
    refine ⟨_, (pss_cons (ps_set (i := 4) scChanged.nd rfl (Or.inl rfl) (pe_callTy (call_dictP rfl) (by rfl) T.dict (by decide +kernel) (pa_cons (pe_listItems rfl (pv 0) (by rfl) T.list (by decide +kernel)) pa_nil)))
      (pss_cons (ps_dput hu (pv 4) (pv 2) (pv 3) rfl)
      (pss_one (ps_ret (pv 4))))), ?_⟩
    refine ⟨_, rfl, d, wd pl, rfl, hd, fun G p ts sG np nts npt hp hts => ⟨p, ts, wd pl, rfl, SqL.of hp, paired_wd hts, fun e he => ?_⟩⟩
    rw [merge_nil nd]
    have s1 : Same H (upd G e (.dK (wd pl))) := Same.trans sG (same_upd he)
    refine ⟨_, rfl, _, rfl, _, rfl, e, _, rfl, DPut.k (k := Sum.inr k) upd_same (by rw [wd_len]; omega), ?_⟩
    rw [put_wd, upd_upd]
    exact ⟨_, rfl, kk e _ (Same.trans sG (same_upd he)) (Same.free sG he) upd_same⟩
end
end M46
/-! A marking told and held against its plan. -/
namespace M46
open PySem PySem.Spec PyProof.Rows L2 R0 K1 LiI

theorem strOk_of {x : S} (h : ∀ c ∈ x.cps.toList, c < 0x110000) : PyData.strOk x = true := by
  unfold PyData.strOk
  rw [← Array.all_toList, List.all_eq_true]
  exact fun c hc => decide_eq_true (h c hc)
theorem nm_small {x : S} (h : nm x = true) : ∀ c ∈ x.cps.toList, c < 1000 := by
  unfold nm at h
  rw [Bool.and_eq_true, Bool.and_eq_true] at h
  intro c hc
  have := List.all_eq_true.mp h.2.2 c hc
  unfold low at this
  simp at this
  omega
theorem w3_nm {v : S} (h : v ∈ W3) : nm v = true := by
  have hx' : v = w0 ∨ v = w1 ∨ v = w2 := by simpa [W3] using h
  rcases hx' with e | e | e <;> subst e <;> decide +kernel
theorem app_small {a b : S} (ha : ∀ c ∈ a.cps.toList, c < 1000) (hb : ∀ c ∈ b.cps.toList, c < 1000) : ∀ c ∈ (a ++ b).cps.toList, c < 1000 := by
  intro c hc
  have e : (a ++ b).cps.toList = a.cps.toList ++ b.cps.toList := Array.toList_append
  rw [e, List.mem_append] at hc
  exact hc.elim (ha c) (hb c)
theorem lit_small : (∀ c ∈ (" " : S).cps.toList, c < 1000) ∧ (∀ c ∈ (", " : S).cps.toList, c < 1000) ∧ ∀ c ∈ ("other " : S).cps.toList, c < 1000 := by
  refine ⟨?_, ?_, ?_⟩ <;> decide +kernel
theorem txt_small {us : List (S × S)} {r : S} (f : Fine us r) : ∀ c ∈ (txt us r).cps.toList, c < 1000 := by
  unfold txt
  rw [show Txt.join (", " : S) (us.map ent ++ [("other " : S) ++ r]) = Str.join ", " (us.map ent ++ [("other " : S) ++ r]) from PySem.StrLaws.glued_eq_join _ _]
  intro c hc
  rcases (mem_join _ _ _).mp hc with ⟨t, ht, hc⟩ | ⟨_, hc⟩
  · rcases List.mem_append.mp ht with ht | ht
    · obtain ⟨x, hx, rfl⟩ := List.mem_map.mp ht
      exact app_small (app_small (nm_small (f.nm _ (List.mem_map.mpr ⟨x, hx, rfl⟩))) lit_small.1) (nm_small (w3_nm (f.vs _ (List.mem_map.mpr ⟨x, hx, rfl⟩)))) c hc
    · rw [List.mem_singleton.mp ht] at hc
      exact app_small lit_small.2.2 (nm_small (w3_nm f.r)) c hc
  · exact lit_small.2.1 c hc
/-- what is told, as data -/
def toldD (ks : List S) (r t : S) (n : Int) (b : Bool) : PyData := .list [.str r, .tuple (ks.map .str), .int n, .list (ks.map .str), .bool b, .str t]
theorem strs_lay : ∀ {ks : List S}, (∀ k ∈ ks, PyData.strOk k = true) → PyData.canLayAll0 (ks.map .str) = true
  | [], _ => by simp [PyData.canLayAll0]
  | k :: ks, h => by
    rw [List.map_cons]
    simp only [PyData.canLayAll0, PyData.canLay0]
    rw [h k List.mem_cons_self, strs_lay fun x hx => h x (List.mem_cons_of_mem _ hx)]
    rfl
theorem strs_depth : ∀ ks : List S, PyData.depthAll (ks.map .str) = 0
  | [] => by simp [PyData.depthAll]
  | k :: ks => by
    rw [List.map_cons]
    simp only [PyData.depthAll, PyData.depth, strs_depth ks]
    rfl
theorem told_shaped {ks : List S} {r t : S} {n : Int} {b : Bool} (h1 : ∀ k ∈ ks, PyData.strOk k = true) (h2 : PyData.strOk r = true) (h3 : PyData.strOk t = true) : SeqAt.shaped (toldD ks r t n b) = true := by
  show (PyData.canLay0 (toldD ks r t n b) && decide (PyData.depth (toldD ks r t n b) ≤ 64)) = true
  rw [Bool.and_eq_true]
  unfold toldD
  refine ⟨?_, decide_eq_true ?_⟩
  · simp only [PyData.canLay0, PyData.canLayAll0, h2, h3, strs_lay h1, Bool.and_true]
  · simp only [PyData.depth, PyData.depthAll, strs_depth]
    decide
theorem strs_shaped {ks : List S} (h1 : ∀ k ∈ ks, PyData.strOk k = true) : SeqAt.shaped (.list (ks.map .str)) = true := by
  show (PyData.canLay0 (.list (ks.map .str)) && decide (PyData.depth (.list (ks.map .str)) ≤ 64)) = true
  rw [Bool.and_eq_true]
  refine ⟨?_, decide_eq_true ?_⟩
  · simp only [PyData.canLay0, strs_lay h1]
  · simp only [PyData.depth, strs_depth]
    decide
theorem dp_strs {K : PySem.W.Frag} {H : Hp} : ∀ ks : List S, DpAll K H (ks.map V.str) (ks.map .str)
  | [] => .nil
  | k :: ks => .cons (.str k) (dp_strs ks)
/-- the specials of the class -/
structure SpF (K : PySem.W.Frag) (C : Addr) (name : S) (f : Addr) : Prop where
  s : PySem.W.findIn K (.ref C) name = some (some (.ref f))
  fn : PySem.W.isFn K (.ref f) = true
  fi : PySem.W.fnIn K f = true
def spRight (C : Addr) : Sp := fun vs H Q _ => ∃ (a d q : Addr) (ws pl : List (S × S)) (r : S) (ks : List S), vs = [.ref a, .ref d, .ref q] ∧ MkAt C H a ws r ∧ H d = some (.dK (wd pl)) ∧ Wok pl ∧ oth ∈ pl.map (·.1) ∧ Canon pl ws r ∧ H q = some (.lst (ks.map V.str)) ∧ ks.length ≤ 10 ∧ (∀ k ∈ ks, nm k = true) ∧
  ∀ H', Same H H' → Q (.bl true) H'
theorem neq_nil (ks : List S) : (!PyData.eqv (.list (ks.map .str)) (.list [])) = ((ks.length : Int) != 0) := by
  cases ks with
  | nil => simp [PyData.eqv, PyData.eqvAll]
  | cons k ks =>
    have : ((k :: ks).length : Int) ≠ 0 := by rw [List.length_cons]; omega
    simp [PyData.eqv, PyData.eqvAll]
    omega
theorem nil_shaped : SeqAt.shaped (.list []) = true := strs_shaped (ks := []) fun _ h => by cases h
def ex3 : List S := ["zzz", "other", "unheard"]
abbrev nRight : List S := ["_law_marking", "_law_plan", "_law_kinds", "_law_told_here", "_law_kind", "_law_found"]
section
variable {P : Program} {w : World} {K : PySem.W.Frag} {mg : PySem.Str → Option Value} {base : Heap} {C : Addr}
theorem scRight : FnScope nRight ["_law_marking", "_law_plan", "_law_kinds"] (defScope sRight) := ⟨rfl, rfl, rfl, by decide +kernel, rfl, by decide +kernel, by decide +kernel⟩
theorem ok_right {f fT fX fO fK fG fL fI fS pO pK : Addr} {fd fdT fdX fdO fdK fdG fdL fdI fdS : FuncData} (F : Fun K "_law_right" "_law_right" sRight f fd) (T : Bare mg) (cf : ClsF K C)
    (FT : Fun K "_law_told" "_law_told" sTold fT fdT) (bT : Binds K fdT ["_law_plan"] []) (mT : mg "_law_told" = some (.ref fT)) (FX : Fun K "_law_text" "_law_text" sText fX fdX) (bX : Binds K fdX ["_law_plan"] []) (mX : mg "_law_text" = some (.ref fX))
    (GO : FnOk P w K mg base CX0 1 fO fdO ["self"] (spOther C)) (bO : Binds K fdO ["self"] []) (pO : PropOf K C "other" pO fO) (GK : FnOk P w K mg base CX0 1 fK fdK ["self"] (spKinds C)) (bK : Binds K fdK ["self"] []) (pK : PropOf K C "kinds" pK fK)
    (GG : FnOk P w K mg base CX0 2 fG fdG ["self", "at"] (spGet C)) (bG : Binds K fdG ["self", "at"] []) (sG : SpF K C "__getitem__" fG) (GL : FnOk P w K mg base CX0 1 fL fdL ["self"] (spLen C)) (bL : Binds K fdL ["self"] []) (sL : SpF K C "__len__" fL) (nb : PySem.W.findIn K (.ref C) "__bool__" = some none)
    (GI : FnOk P w K mg base CX0 1 fI fdI ["self"] (spIter C)) (bI : Binds K fdI ["self"] []) (sI : SpF K C "__iter__" fI) (GS : FnOk P w K mg base CX0 1 fS fdS ["self"] (spStr C)) (bS : Binds K fdS ["self"] []) (sS : SpF K C "__str__" fS) : FnOk P w K mg base CX0 8 f fd ["_law_marking", "_law_plan", "_law_kinds"] (spRight C) := by
  have GT : FnOk P w K mg base CX0 1 fT fdT ["_law_plan"] spTold := ok_told FT T
  have GX : FnOk P w K mg base CX0 2 fX fdX ["_law_plan"] spText := ok_text FX T FT bT mT
  refine F.ok scRight (fun vs H Q E h => ?_) (fun cdv A outer s H vs Q E hr h => ?_)
  · obtain ⟨a, d, q, ws, pl, r, ks, rfl, _⟩ := h
    rfl
  · obtain ⟨a, d, q, ws, pl, r, ks, rfl, ⟨dx, dm, ha, hm⟩, hd, ok, ho, cn, hq, hl, hk, k⟩ := h
    have hu := hu_of hr
    have hrT : Room 1 _ := hr.mono (by decide)
    have hrX : Room 2 _ := hr.mono (by decide)
    have hrO : Room 2 _ := hr.mono (by decide)
    have hrL : Room 2 _ := hr.mono (by decide)
    have hrG : Room 3 _ := hr.mono (by decide)
    have hrI : Room 4 _ := hr.mono (by decide)
    have hrS : Room 3 _ := hr.mono (by decide)
    have hrD := hr
    have oG : ∀ E, OwnM (cxOf CX0 P w K mg base nRight "_law_right" (defScope sRight) f cdv A outer s H E).nox CX0 2 C "__getitem__" fG fdG ["self", "at"] (spGet C) E0 := fun E => ⟨GG, bG, pass0, sG.s, sG.fn⟩
    have oL : ∀ E, OwnM (cxOf CX0 P w K mg base nRight "_law_right" (defScope sRight) f cdv A outer s H E).nox CX0 1 C "__len__" fL fdL ["self"] (spLen C) E0 := fun E => ⟨GL, bL, pass0, sL.s, sL.fn⟩
    have oI : ∀ E, OwnM (cxOf CX0 P w K mg base nRight "_law_right" (defScope sRight) f cdv A outer s H E).nox CX0 1 C "__iter__" fI fdI ["self"] (spIter C) E0 := fun E => ⟨GI, bI, pass0, sI.s, sI.fn⟩
    have oS : ∀ E, OwnM (cxOf CX0 P w K mg base nRight "_law_right" (defScope sRight) f cdv A outer s H E).nox CX0 1 C "__str__" fS fdS ["self"] (spStr C) E0 := fun E => ⟨GS, bS, pass0, sS.s, sS.fn⟩
    have fG := sG.fi
    refine ⟨_, (pss_cons (ps_set (i := 3) scRight.nd rfl (Or.inl rfl) (pe_call GT hrT (by rfl) mT FT.kp bT .nil pass0 (pa_cons (pv 1) pa_nil)))
      (pss_cons (ps_for PassesOwn.never rfl (pi_list (pe_op op_cat (pv 2) (pe_lst (pa_cons pe_str (pa_cons pe_str (pa_cons pe_str pa_nil)))))) (pg_name (i := 4) scRight.nd rfl (Or.inl rfl)) (pss_one (ps_if (pt_cmpR op_ne (pe_ixO (oG _) fG hrG (pv 0) (pv 4)) (pe_dget2 hu (pv 1) (pv 4) (pe_dget hu (pv 1) pe_str (fun _ _ => rfl)) ⟨rfl, rfl, rfl, rfl⟩) (nomark _)) (pss_one (ps_ret pe_bl)) pss_nil)))
      (pss_cons (ps_set (i := 5) scRight.nd rfl (Or.inl rfl) (pe_lst (pa_cons (pe_prop (pv 0) cf.cl pO GO hrO bO .nil pass0 rfl) (pa_cons (pe_prop (pv 0) cf.cl pK GK hrO bK .nil pass0 rfl) (pa_cons (pe_callB (call_lenO (oL _) hrL) (by rfl) T.len (by decide +kernel) (pa_cons (pv 0) pa_nil)) (pa_cons (pe_lock (pe_callTy (call_listW rfl (oI _) (oL _) hrI) (by rfl) T.list (by decide +kernel) (pa_cons (pv 0) pa_nil))) (pa_cons (pe_callTy (call_boolO (oL _) nb hrI) (by rfl) T.bool (by decide +kernel) (pa_cons (pv 0) pa_nil)) (pa_cons (pe_callTy (call_strO (oS _) hrS) (by rfl) T.str (by decide +kernel) (pa_cons (pv 0) pa_nil)) pa_nil))))))))
      (pss_one (ps_ret (pe_cmpR (op_eqD hrD.units) (pv 5) (pe_lst (pa_cons (pe_dget hu (pv 1) pe_str (fun _ _ => rfl)) (pa_cons (pe_callTy call_tuple_of (by rfl) T.tup (by decide +kernel) (pa_cons (pv 3) pa_nil)) (pa_cons (pe_callB call_len_seq (by rfl) T.len PySem.boot_len (pa_cons (pv 3) pa_nil)) (pa_cons (pv 3) (pa_cons (pe_cmpR (op_neD hrD.units) (pv 3) (pe_lst pa_nil) (nomark _)) (pa_cons (pe_call GX hrX (by rfl) mX FX.kp bX .nil pass0 (pa_cons (pv 1) pa_nil)) pa_nil))))))) (nomark _))))))), ?_⟩
    refine ⟨_, rfl, d, pl, rfl, hd, ok, ho, fun t us G1 s1 nt cu ht => ?_⟩
    obtain ⟨e1, e2⟩ := canon_eq cn cu rfl (fun _ => rfl)
    subst e1
    subst e2
    have kp := canon_kept ok cn
    have hus := kp.fine.len
    have hsz : (1000 : Nat) ≤ sizeLine := by rw [sizeLine_eq]; decide
    refine ⟨_, rfl, by show 3 ≤ sizeLine; omega, fun l hl => ⟨q, l, _, _, rfl, rfl, by rw [upd_ne (ne_of_none (s1 _ _ hq) hl)]; exact s1 _ _ hq, upd_same, by rw [List.length_map]; simp only [List.length_cons, List.length_nil]; omega, fun p hp => ?_⟩⟩
    have s2 : Same H (upd (upd G1 l (.lst [V.str "zzz", V.str "other", V.str "unheard"])) p (.lst (ks.map V.str ++ [V.str "zzz", V.str "other", V.str "unheard"]))) := (s1.trans (same_upd hl)).trans (same_upd hp)
    have ht2 : (upd (upd G1 l (.lst [V.str "zzz", V.str "other", V.str "unheard"])) p (.lst (ks.map V.str ++ [V.str "zzz", V.str "other", V.str "unheard"]))) t = some (.lst ((ws.map (·.1)).map V.str)) := by
      have h1 : (upd G1 l (.lst [V.str "zzz", V.str "other", V.str "unheard"])) t = some (.lst ((ws.map (·.1)).map V.str)) := by rw [upd_ne (ne_of_none ht hl)]; exact ht
      rw [upd_ne (ne_of_none h1 hp)]
      exact h1
    have hp2 : (upd (upd G1 l (.lst [V.str "zzz", V.str "other", V.str "unheard"])) p (.lst (ks.map V.str ++ [V.str "zzz", V.str "other", V.str "unheard"]))) p = some (.lst ((ks ++ ex3).map V.str)) := upd_same.trans (by rw [List.map_append]; rfl)
    have ez : ks.map V.str ++ [V.str "zzz", V.str "other", V.str "unheard"] = (ks ++ ex3).map V.str := by rw [List.map_append]; rfl
    generalize upd (upd G1 l (.lst [V.str "zzz", V.str "other", V.str "unheard"])) p (.lst (ks.map V.str ++ [V.str "zzz", V.str "other", V.str "unheard"])) = G2 at s2 ht2 hp2 ⊢
    have ha2 := s2 _ _ ha
    have hm2 := s2 _ _ hm
    have hd2 := s2 _ _ hd
    have g2 := dg_mem hd2 ho
    rw [rest_of ho] at g2
    have hks : ∀ k ∈ ks ++ ex3, nm k = true := fun k hk' => by
      rcases List.mem_append.mp hk' with z | z
      · exact hk k z
      · have hx' : k = "zzz" ∨ k = "other" ∨ k = "unheard" := by simpa [ex3] using z
        rcases hx' with e | e | e <;> subst e <;> decide +kernel
    refine ⟨p, rfl, ⟨_, SqL.of hp2⟩, for_list (K := K) (a := p) (xs := (ks ++ ex3).map V.str) (fun i σ G => (∃ v4, σ = [some (.ref a), some (.ref d), some (.ref q), some (.ref t), v4, none]) ∧ G = G2) ⟨⟨none, rfl⟩, rfl⟩ (fun i σ G _ ⟨_, e⟩ => by rw [e]; exact SqL.of hp2) ?_ ?_⟩
    · rintro i x σ G hi ⟨⟨v4, rfl⟩, rfl⟩
      obtain ⟨kd, hkd, rfl⟩ := str_at hi
      refine ⟨_, rfl, _, rfl, a, dx, _, rfl, ha2, a, ws, _, kd, rfl, ⟨dx, dm, ha2, hm2⟩, hks kd hkd, ?_⟩
      refine ⟨_, rfl, d, rfl, .inl ⟨_, .inl hd2⟩, _, rfl, _, rfl, d, _, rfl, g2, _, DGet.k (k := Sum.inr kd) hd2, ?_⟩
      rw [val_gw, canon_gw cn]
      refine ⟨rfl, _, rfl, ?_⟩
      rw [decide_eq_true rfl]
      exact ⟨⟨_, rfl⟩, rfl⟩
    · rintro σ G ⟨⟨v4, rfl⟩, rfl⟩
      have had : a ≠ dm := ne_of ha hm (fun z => nomatch z)
      refine ⟨_, rfl, a, dx, _, rfl, ha2, a, ws, _, rfl, ⟨dx, dm, ha2, hm2⟩, ?_⟩
      refine ⟨_, rfl, a, dx, _, rfl, ha2, a, ws, _, rfl, ⟨dx, dm, ha2, hm2⟩, fun qk hqk => ?_⟩
      have s3 : Same H (upd G qk (.tup ((ws.map (·.1)).map V.str))) := s2.trans (same_upd hqk)
      have ht3 : (upd G qk (.tup ((ws.map (·.1)).map V.str))) t = some (.lst ((ws.map (·.1)).map V.str)) := by rw [upd_ne (ne_of_none ht2 hqk)]; exact ht2
      have hk3 : (upd G qk (.tup ((ws.map (·.1)).map V.str))) qk = some (.tup ((ws.map (·.1)).map V.str)) := upd_same
      generalize upd G qk (.tup ((ws.map (·.1)).map V.str)) = G3 at s3 ht3 hk3 ⊢
      have ha3 := s3 _ _ ha
      have hm3 := s3 _ _ hm
      refine ⟨_, rfl, a, dx, _, rfl, ha3, a, ws, _, rfl, ⟨dx, dm, ha3, .inl hm3⟩, _, rfl, by omega, by omega, ?_⟩
      refine ⟨dm, _, hm3, trivial, fun od => ⟨_, rfl, a, dx, _, dm, od, wd ws, rfl, by rw [upd_ne had]; exact ha3, upd_same, fun H' i1 i2 => ?_, fun H' i1 i2 => ?_, fun ql hql => ?_⟩⟩
      · rw [upd_ne had] at i1
        rw [upd_same] at i2
        exact ⟨a, ws, _, dx, dm, od, rfl, i1.trans ha3, i2, fun it es ep n0 e0 => ⟨it, es, ep, rfl, n0, e0, rfl⟩⟩
      · rw [upd_ne had] at i1
        rw [upd_same] at i2
        exact ⟨a, ws, _, rfl, ⟨dx, dm, i1.trans ha3, .inr ⟨od, i2⟩⟩, _, rfl, by omega, by omega, rfl⟩
      · have hdl : dm ≠ ql := ne_of_none upd_same hql
        have nql : G3 ql = none := by rw [upd_ne hdl.symm] at hql; exact hql
        refine ⟨by rw [upd_ne hdl, upd_same], ?_⟩
        rw [unlock_eq hm3 nql, wd_keys]
        have s4 : Same H (upd G3 ql (.lst ((ws.map (·.1)).map V.str))) := s3.trans (same_upd nql)
        have ht4 := same_upd (o := .lst ((ws.map (·.1)).map V.str)) nql _ _ ht3
        have hk4 := same_upd (o := .lst ((ws.map (·.1)).map V.str)) nql _ _ hk3
        have hl4 : (upd G3 ql (.lst ((ws.map (·.1)).map V.str))) ql = some (.lst ((ws.map (·.1)).map V.str)) := upd_same
        generalize upd G3 ql (.lst ((ws.map (·.1)).map V.str)) = G4 at s4 ht4 hk4 hl4 ⊢
        have ha4 := s4 _ _ ha
        have hm4 := s4 _ _ hm
        refine ⟨_, rfl, a, dx, _, rfl, ha4, a, ws, _, rfl, ⟨dx, dm, ha4, .inl hm4⟩, _, rfl, by omega, by omega, ?_⟩
        refine ⟨_, rfl, a, dx, _, rfl, ha4, a, ws, _, rfl, ⟨dx, dm, ha4, hm4⟩, kp.fine, fun G5 s45 => ⟨_, rfl, ?_⟩⟩
        refine ⟨by show 6 ≤ sizeLine; omega, fun lf hlf => ?_⟩
        have ht5 := same_upd (o := .lst [V.str (rest pl), V.ref qk, V.int (ws.length : Nat), V.ref ql, V.bl ((ws.length : Int) != 0), V.str (txt ws (rest pl))]) hlf _ _ (s45 _ _ ht4)
        have hk5 := same_upd (o := .lst [V.str (rest pl), V.ref qk, V.int (ws.length : Nat), V.ref ql, V.bl ((ws.length : Int) != 0), V.str (txt ws (rest pl))]) hlf _ _ (s45 _ _ hk4)
        have hl5 := same_upd (o := .lst [V.str (rest pl), V.ref qk, V.int (ws.length : Nat), V.ref ql, V.bl ((ws.length : Int) != 0), V.str (txt ws (rest pl))]) hlf _ _ (s45 _ _ hl4)
        have s5 : Same H (upd G5 lf (.lst [V.str (rest pl), V.ref qk, V.int (ws.length : Nat), V.ref ql, V.bl ((ws.length : Int) != 0), V.str (txt ws (rest pl))])) := (s4.trans s45).trans (same_upd hlf)
        have hf5 : (upd G5 lf (.lst [V.str (rest pl), V.ref qk, V.int (ws.length : Nat), V.ref ql, V.bl ((ws.length : Int) != 0), V.str (txt ws (rest pl))])) lf = some (.lst [V.str (rest pl), V.ref qk, V.int (ws.length : Nat), V.ref ql, V.bl ((ws.length : Int) != 0), V.str (txt ws (rest pl))]) := upd_same
        generalize upd G5 lf (.lst [V.str (rest pl), V.ref qk, V.int (ws.length : Nat), V.ref ql, V.bl ((ws.length : Int) != 0), V.str (txt ws (rest pl))]) = G6 at ht5 hk5 hl5 s5 hf5 ⊢
        have hd6 := s5 _ _ hd
        have g6 := dg_mem hd6 ho
        rw [rest_of ho] at g6
        have sk : ∀ k ∈ ws.map (·.1), PyData.strOk k = true := fun k hk' => strOk_of fun c hc => by have := nm_small (kp.fine.nm k hk') c hc; omega
        have sr : PyData.strOk (rest pl) = true := strOk_of fun c hc => by have := nm_small (w3_nm kp.fine.r) c hc; omega
        have sx : PyData.strOk (txt ws (rest pl)) = true := strOk_of fun c hc => by have := txt_small kp.fine c hc; omega
        refine ⟨_, rfl, _, rfl, d, _, rfl, g6, _, rfl, t, _, rfl, .inl ⟨SqL.of ht5, fun tq htq => ?_⟩⟩
        have ht7 := same_upd (o := .tup ((ws.map (·.1)).map V.str)) htq _ _ ht5
        have hk7 := same_upd (o := .tup ((ws.map (·.1)).map V.str)) htq _ _ hk5
        have hl7 := same_upd (o := .tup ((ws.map (·.1)).map V.str)) htq _ _ hl5
        have hf7 := same_upd (o := .tup ((ws.map (·.1)).map V.str)) htq _ _ hf5
        have s7 : Same H (upd G6 tq (.tup ((ws.map (·.1)).map V.str))) := s5.trans (same_upd htq)
        have hq7 : (upd G6 tq (.tup ((ws.map (·.1)).map V.str))) tq = some (.tup ((ws.map (·.1)).map V.str)) := upd_same
        generalize upd G6 tq (.tup ((ws.map (·.1)).map V.str)) = G7 at ht7 hk7 hl7 hf7 s7 hq7 ⊢
        refine ⟨_, rfl, t, _, rfl, .inl (SqL.of ht7), _, rfl, _, rfl, Nat.zero_le _, fun e0 he0 => ?_⟩
        have ht8 := same_upd (o := .lst []) he0 _ _ ht7
        have hk8 := same_upd (o := .lst []) he0 _ _ hk7
        have hl8 := same_upd (o := .lst []) he0 _ _ hl7
        have hf8 := same_upd (o := .lst []) he0 _ _ hf7
        have hq8 := same_upd (o := .lst []) he0 _ _ hq7
        have s8 : Same H (upd G7 e0 (.lst [])) := s7.trans (same_upd he0)
        refine ⟨.list ((ws.map (·.1)).map .str), .list [], .lst (SqL.of ht8) (dp_strs _), .lst (SqL.of upd_same) .nil, strs_shaped sk, nil_shaped, ?_⟩
        rw [neq_nil]
        generalize upd G7 e0 (.lst []) = G8 at ht8 hk8 hl8 hf8 hq8 s8 ⊢
        refine ⟨_, rfl, d, pl, rfl, s8 _ _ hd, ok, ho, fun us2 G9 s9 c2 => ?_⟩
        obtain ⟨e3, _⟩ := canon_eq cn c2 rfl (fun _ => rfl)
        subst e3
        refine ⟨by show 6 ≤ sizeLine; omega, fun lz hlz => ?_⟩
        have up := fun {b u} (h : G9 b = some u) => same_upd (o := .lst [V.str (rest pl), V.ref tq, V.int (((ws.map (·.1)).map V.str).length : Nat), V.ref t, V.bl (((ws.map (·.1)).length : Int) != 0), V.str (txt ws (rest pl))]) hlz b u h
        have hn : (((ws.map (·.1)).map V.str).length : Int) = (ws.length : Int) := by rw [List.length_map, List.length_map]
        have hn2 : ((ws.map (·.1)).length : Int) = (ws.length : Int) := by rw [List.length_map]
        refine ⟨toldD (ws.map (·.1)) (rest pl) (txt ws (rest pl)) (ws.length : Int) ((ws.length : Int) != 0), toldD (ws.map (·.1)) (rest pl) (txt ws (rest pl)) (ws.length : Int) ((ws.length : Int) != 0),
          .lst (SqL.of (up (s9 _ _ hf8))) (.cons (.str _) (.cons (.tup (.inl (.inl (up (s9 _ _ hk8)))) (dp_strs _)) (.cons (.int _) (.cons (.lst (SqL.of (up (s9 _ _ hl8))) (dp_strs _)) (.cons (.bl _) (.cons (.str _) .nil)))))),
          .lst (SqL.of (upd_same.trans (by rw [hn2]))) (.cons (.str _) (.cons (.tup (.inl (.inl (up (s9 _ _ hq8)))) (dp_strs _)) (.cons (by rw [hn]; exact .int _) (.cons (.lst (SqL.of (up (s9 _ _ ht8))) (dp_strs _)) (.cons (.bl _) (.cons (.str _) .nil)))))), told_shaped sk sr sx, told_shaped sk sr sx, ?_⟩
        rw [SeqAt.eqv_refl _ (SeqAt.canLay_of_shaped (told_shaped sk sr sx))]
        exact k _ ((s8.trans s9).trans (same_upd hlz))
end
end M46
/-! What a turn of the law rests on: plans, their kept words, equality. -/
namespace M46
open PySem PySem.Spec PyProof.Rows L2 R0 K1 LiI

theorem plan_wok {ks : List S} {pl : List (S × S)} (hk : ∀ k ∈ ks, nm k = true) (h : Plan ks pl) : Wok pl :=
  ⟨fun k hk' => (h.keys k hk').elim (hk k) fun e => by rw [e]; exact nm_oth, h.vs, h.nd, by have := h.len; omega⟩
theorem slf_not {ks : List S} {pl : List (S × S)} (hk : Kinds ks) (h : ∀ k ∈ pl.map (·.1), k ∈ ks ∨ k = oth ∨ k = "fresh") : slf ∉ pl.map (·.1) := fun hs => by
  rcases h _ hs with z | z | z
  · have := (kinds_at hk z).2
    exact absurd this (by decide +kernel)
  · exact absurd z (by decide +kernel)
  · exact absurd z (by decide +kernel)
theorem cls_cm {CM CT : Addr} {ws : List (S × S)} (h : slf ∉ ws.map (·.1)) : clsOf CM CT ws = CM := by
  unfold clsOf
  rw [if_neg h]
theorem canon_trans {A B us : List (S × S)} {r : S} (c : Canon A us r) (er : rest A = rest B) (e : ∀ k, gw A (rest A) k = gw B (rest A) k) : Canon B us r := by
  obtain ⟨e0, ys, h1, h2, h3, h4, h5, h6⟩ := c
  have ef : gw A (rest A) = gw B (rest A) := funext e
  rw [ef] at h5 h6
  rw [er] at e0 h5 h6
  exact ⟨e0, ys, h1, h2, h3, h4, h5, h6⟩
theorem leW_refl (ws : List (S × S)) (r : S) : leW ws r ws r = true := by
  unfold leW
  rw [Bool.not_eq_true', List.any_eq_false]
  intro k _
  simp
theorem eqW_refl (ws : List (S × S)) (r : S) : eqW ws r ws r = true := by
  unfold eqW
  rw [leW_refl]
  rfl
theorem leW_iff {ws us : List (S × S)} {r q : S} : leW ws r us q = true ↔ ∀ k, k ∈ ws.map (·.1) ∨ k ∈ us.map (·.1) ∨ k = oth → rk (gw ws r k) ≤ rk (gw us q k) := by
  unfold leW
  rw [Bool.not_eq_true', List.any_eq_false]
  constructor
  · intro h k hk
    have := h k (by
      rw [List.mem_append, List.mem_append, List.mem_singleton]
      exact hk)
    simp at this
    omega
  · intro h k hk
    rw [List.mem_append, List.mem_append, List.mem_singleton] at hk
    have := h k hk
    simp
    omega
theorem eqW_iff {ws us : List (S × S)} {r q : S} (fa : Fine ws r) (fb : Fine us q) (ha : oth ∉ ws.map (·.1)) (hb : oth ∉ us.map (·.1)) : eqW ws r us q = true ↔ ∀ k, gw ws r k = gw us q k := by
  unfold eqW
  rw [Bool.and_eq_true, leW_iff, leW_iff]
  constructor
  · rintro ⟨h1, h2⟩ k
    have key : ∀ k, k ∈ ws.map (·.1) ∨ k ∈ us.map (·.1) ∨ k = oth → gw ws r k = gw us q k := fun k hk => by
      have a := h1 k hk
      have b := h2 k (by
        rcases hk with z | z | z
        · exact .inr (.inl z)
        · exact .inl z
        · exact .inr (.inr z))
      exact rk_inj (gw_w3 fa k) (gw_w3 fb k) (by omega)
    by_cases m1 : k ∈ ws.map (·.1)
    · exact key k (.inl m1)
    · by_cases m2 : k ∈ us.map (·.1)
      · exact key k (.inr (.inl m2))
      · have := key oth (.inr (.inr rfl))
        rw [gw_not ha, gw_not hb] at this
        rw [gw_not m1, gw_not m2, this]
  · intro h
    exact ⟨fun k _ => by rw [h k]; exact Nat.le_refl _, fun k _ => by rw [h k]; exact Nat.le_refl _⟩
theorem strs_eqv : ∀ xs ys : List S, PyData.eqvAll (xs.map .str) (ys.map .str) = decide (xs = ys)
  | [], [] => by simp [PyData.eqvAll]
  | [], _ :: _ => by simp [PyData.eqvAll]
  | _ :: _, [] => by simp [PyData.eqvAll]
  | x :: xs, y :: ys => by
    rw [List.map_cons, List.map_cons]
    simp only [PyData.eqvAll, PyData.eqv, strs_eqv xs ys]
    by_cases h : x = y
    · subst h; simp
    · simp [h]
/-- all words told of two plans are the same just if the markings are -/
theorem words_eq {ks : List S} {pl p2 ws us : List (S × S)} {r q : S} (h1 : Plan ks pl) (h2 : Plan ks p2) (o1 : Wok pl) (o2 : Wok p2) (c1 : Canon pl ws r) (c2 : Canon p2 us q) :
    eqW ws r us q = decide (ks.map (gw pl (rest pl)) ++ [rest pl] = ks.map (gw p2 (rest p2)) ++ [rest p2]) := by
  have k1 := canon_kept o1 c1
  have k2 := canon_kept o2 c2
  obtain ⟨rfl, _⟩ := id c1
  obtain ⟨rfl, _⟩ := id c2
  rw [Bool.eq_iff_iff, decide_eq_true_eq, eqW_iff k1.fine k2.fine k1.no k2.no]
  constructor
  · intro h
    have hr : rest pl = rest p2 := by
      have := h oth
      rw [canon_gw c1, canon_gw c2, rest_of h1.has, rest_of h2.has] at this
      exact this
    rw [hr]
    congr 1
    refine List.map_congr_left fun k _ => ?_
    have := h k
    rw [canon_gw c1, canon_gw c2, hr] at this
    exact this
  · intro h k
    have hl : (ks.map (gw pl (rest pl))).length = (ks.map (gw p2 (rest p2))).length := by rw [List.length_map, List.length_map]
    obtain ⟨e1, e2⟩ := List.append_inj h hl
    have hr : rest pl = rest p2 := by simpa using e2
    rw [canon_gw c1, canon_gw c2]
    by_cases m : k ∈ ks
    · exact List.map_inj_left.mp e1 k m
    · by_cases ho : k = oth
      · rw [ho, rest_of h1.has, rest_of h2.has]
        exact hr
      · rw [gw_not (fun z => (h1.keys k z).elim m ho), gw_not (fun z => (h2.keys k z).elim m ho)]
        exact hr
/-- the words of all kinds, and of the others -/
def fullP (ks : List S) (pl : List (S × S)) : List (S × S) := (ks ++ [oth]).map fun k => (k, gw pl (rest pl) k)
theorem full_keys {ks : List S} {pl : List (S × S)} : (fullP ks pl).map (·.1) = ks ++ [oth] := by
  unfold fullP
  rw [List.map_map]
  show (ks ++ [oth]).map id = _
  rw [List.map_id]
theorem gw_full {ks : List S} {pl : List (S × S)} {r : S} (h : Plan ks pl) (k : S) : gw (fullP ks pl) (rest pl) k = gw pl (rest pl) k := by
  unfold fullP
  rw [gw_fun]
  by_cases m : k ∈ ks ++ [oth]
  · rw [if_pos m]
  · rw [if_neg m]
    rw [List.mem_append, List.mem_singleton, not_or] at m
    rw [gw_not fun z => (h.keys k z).elim m.1 m.2]
theorem rest_full {ks : List S} {pl : List (S × S)} (h : Plan ks pl) : rest (fullP ks pl) = rest pl := by
  unfold rest
  rw [show gw (fullP ks pl) w0 oth = gw (fullP ks pl) (rest pl) oth from gw_any (by rw [full_keys]; simp), gw_full (r := w0) h, rest_of h.has]
  rfl
theorem gw_w3p {pl : List (S × S)} (ok : Wok pl) (k : S) : gw pl (rest pl) k ∈ W3 := by
  by_cases m : k ∈ pl.map (·.1)
  · exact ok.vs _ (gw_mem m)
  · rw [gw_not m]; exact rest_w3 ok.vs
theorem full_wok {ks : List S} {pl : List (S × S)} (hk : Kinds ks) (h : Plan ks pl) (ok : Wok pl) : Wok (fullP ks pl) := by
  refine ⟨fun k hk' => ?_, fun v hv => ?_, ?_, ?_⟩
  · rw [full_keys, List.mem_append, List.mem_singleton] at hk'
    exact hk'.elim (fun z => (kinds_at hk z).1) fun z => by rw [z]; exact nm_oth
  · unfold fullP at hv
    rw [List.map_map] at hv
    obtain ⟨k, _, e⟩ := List.mem_map.mp hv
    have e' : gw pl (rest pl) k = v := e
    rw [← e']
    exact gw_w3p ok k
  · rw [full_keys, List.nodup_append]
    refine ⟨kinds_nodup hk.2, by simp, fun a ha b hb => ?_⟩
    rw [List.mem_singleton.mp hb]
    intro e
    exact kinds_oth hk (by rw [← e]; exact ha)
  · have := congrArg List.length (full_keys (ks := ks) (pl := pl))
    rw [List.length_map, List.length_append, List.length_singleton] at this
    have := hk.1
    omega
theorem canon_full {ks : List S} {pl us : List (S × S)} {q : S} (h : Plan ks pl) (c : Canon (fullP ks pl) us q) : Canon pl us q :=
  canon_trans c (rest_full h) fun k => by rw [rest_full h]; exact gw_full (r := w0) h k
theorem canon_rev {pl us : List (S × S)} {q : S} (nd : (pl.map (·.1)).Nodup) (c : Canon pl.reverse us q) : Canon pl us q := by
  have p : pl.reverse.Perm pl := List.reverse_perm pl
  have er : rest pl.reverse = rest pl := gw_perm nd p
  exact canon_trans c er fun k => gw_perm nd p
theorem wok_rev {pl : List (S × S)} (ok : Wok pl) : Wok pl.reverse := by
  have p : pl.reverse.Perm pl := List.reverse_perm pl
  exact ⟨fun k hk => ok.nm k ((p.map (·.1)).mem_iff.mp hk), fun v hv => ok.vs v ((p.map (·.2)).mem_iff.mp hv), (p.map (·.1)).nodup_iff.mpr ok.nd, by rw [List.length_reverse]; exact ok.len⟩
/-! ### one word changed -/
theorem put_oth {ws : List (S × S)} {r v : S} (ho : oth ∉ ws.map (·.1)) : putS (ws ++ [(oth, r)]) oth v = ws ++ [(oth, v)] := by
  unfold putS
  rw [if_pos (by simp), List.map_append]
  have : (ws.map fun x => if x.1 = oth then (x.1, v) else x) = ws := by
    have h2 : ∀ x ∈ ws, (if x.1 = oth then (x.1, v) else x) = x := fun x hx => by
      rw [if_neg]
      intro z
      exact ho (List.mem_map.mpr ⟨x, hx, z⟩)
    rw [List.map_congr_left h2, List.map_id']
  rw [this]
  simp
theorem gw_with {pl ws : List (S × S)} {r : S} (c : Canon pl ws r) (h : oth ∈ pl.map (·.1)) (j : S) : gw (ws ++ [(oth, r)]) r j = gw pl (rest pl) j := by
  obtain ⟨rfl, _⟩ := id c
  rw [gw_app, gw_cons, gw_nil]
  by_cases m : j ∈ ws.map (·.1)
  · rw [if_pos m, canon_gw c]
  · rw [if_neg m, ite_self, ← canon_gw c, gw_not m]
theorem canon_with {pl ws us : List (S × S)} {r q k v : S} (ok : Wok pl) (c : Canon pl ws r) (h : oth ∈ pl.map (·.1)) (hk : k ≠ oth) (cu : Canon (putS (ws ++ [(oth, r)]) k v) us q) : Canon (putS pl k v) us q := by
  obtain ⟨rfl, _⟩ := id c
  have r1 : rest (putS (ws ++ [(oth, rest pl)]) k v) = rest pl := by
    show gw (putS (ws ++ [(oth, rest pl)]) k v) w0 oth = rest pl
    rw [gw_put, if_neg (Ne.symm hk), show gw (ws ++ [(oth, rest pl)]) w0 oth = gw (ws ++ [(oth, rest pl)]) (rest pl) oth from gw_any (by simp), gw_with c h, rest_of h]
  have r2 : rest (putS pl k v) = rest pl := by
    show gw (putS pl k v) w0 oth = gw pl w0 oth
    rw [gw_put, if_neg (Ne.symm hk)]
  refine canon_trans cu (r1.trans r2.symm) fun j => ?_
  rw [r1, gw_put, gw_put]
  by_cases e : j = k
  · rw [if_pos e, if_pos e]
  · rw [if_neg e, if_neg e, gw_with c h]
theorem wok_put {pl : List (S × S)} {k v : S} (ok : Wok pl) (hl : pl.length ≤ 30) (hk : nm k = true) (hv : v ∈ W3) : Wok (putS pl k v) :=
  ⟨fun j hj => (mem_put.mp hj).elim (ok.nm j) fun e => by rw [e]; exact hk, vals_put (p := fun v => v ∈ W3) ok.vs hv, nodup_put ok.nd, by have := len_put (k := k) (v := v) (ws := pl); omega⟩
theorem MkAt.keep {C : Addr} {H H' : Hp} {a p : Addr} {ws : List (S × S)} {r : S} {xs : List V} (m : MkAt C H a ws r) (hp : H p = some (.lst xs)) (s : ∀ b o, b ≠ p → H b = some o → H' b = some o) : MkAt C H' a ws r := by
  obtain ⟨dx, d, h1, h2⟩ := m.ex
  exact ⟨dx, d, s _ _ (ne_of h1 hp (fun z => nomatch z)) h1, s _ _ (ne_of h2 hp (fun z => nomatch z)) h2⟩
end M46
/-! A turn of the law. -/
namespace M46
open PySem PySem.Spec PyProof.Rows L2 R0 K1 LiI ClX

/-- a def of the top, with its promise -/
structure Cl (P : Program) (w : World) (K : PySem.W.Frag) (mg : PySem.Str → Option Value) (base : Heap) (k : Nat) (x : S) (ps : List S) (sp : Sp) : Prop where
  ex : ∃ (f : Addr) (fd : FuncData), FnOk P w K mg base CX0 k f fd ps sp ∧ mg x = some (.ref f) ∧ PySem.W.keepIn K (.ref f) = true ∧ Binds K fd ps []
/-- isinstance of other kinds -/
structure KoF (K : PySem.W.Frag) (CM : Addr) : Prop where
  str : PySem.W.kitOne K (.type "str") (.ref CM) = some false
  int : PySem.W.kitOne K (.type "int") (.ref CM) = some false
  non : PySem.W.kitOne K (.type "NoneType") (.ref CM) = some false
  tup : PySem.W.kitOne K (.type "tuple") (.ref CM) = some false
  dict : PySem.W.kitOne K (.type "dict") (.ref CM) = some false
def spTurn : Sp := fun vs H Q _ => ∃ (p q : Addr) (x y z : Int) (ks : List S), vs = [.ref p, .ref q] ∧ Dice H p x y z ∧ H q = some (.lst (ks.map V.str)) ∧ Kinds ks ∧
  ∀ (x' z' : Int) (H' : Hp), Dice H' p x' y z' → (∀ b o, b ≠ p → H b = some o → H' b = some o) → Q (.bl true) H'
abbrev nTurn : List S := ["_law_dice_here", "_law_kinds", "_law_plan", "_law_marking", "_law_kept", "_law_kind", "_law_full", "_law_turn_here", "_law_word", "_law_later", "_law_due", "_law_beside", "_law_is_same", "_law_one"]
theorem paired_rev {α β : Type} {F : α → β → Prop} : ∀ {xs : List α} {ys : List β}, Paired F xs ys → Paired F xs.reverse ys.reverse
  | _, _, .nil => .nil
  | _, _, .cons h t => by
    rw [List.reverse_cons, List.reverse_cons]
    exact (paired_rev t).snoc h
theorem kept_back {pl us : List (S × S)} {r : S} (k : Kept pl us r) : (us.map (·.1)).map (fun k => (k, gw pl (rest pl) k)) = us := by
  rw [List.map_map]
  have h2 : ∀ x ∈ us, ((fun k => (k, gw pl (rest pl) k)) ∘ fun x : S × S => x.1) x = x := fun x hx => by
    show (x.1, gw pl (rest pl) x.1) = x
    rw [← k.val x.1 x.2 hx]
  rw [List.map_congr_left h2, List.map_id']
theorem paired_fn {G : Hp} {K : PySem.W.Frag} {f : S → S} : ∀ {ts : List Addr} {ks : List S}, Paired (fun (t : Addr) (k : S) => G t = some (.tup [.str k, .str (f k)])) ts ks → Paired (fun t q => SqT K G t [kV q.1, q.2]) ts (wd (ks.map fun k => (k, f k)))
  | _, _, .nil => .nil
  | _, _, .cons h t => .cons (.inl (.inl h)) (paired_fn t)
section
variable {P : Program} {w : World} {K : PySem.W.Frag} {mg : PySem.Str → Option Value} {base : Heap} {CM CT fO fI fE fS pO : Addr} {mc : Value} {fdI fdE fdS : FuncData}
theorem scTurn : FnScope nTurn ["_law_dice_here", "_law_kinds"] (defScope sTurn) := ⟨rfl, rfl, rfl, by decide +kernel, rfl, by decide +kernel, by decide +kernel⟩
theorem ok_turn {f : Addr} {fd : FuncData} (F : Fun K "_law_turn" "_law_turn" sTurn f fd) (T : Bare mg) (cf : ClsF K CM) (is : IsF K CM CM) (nf : PySem.W.notFirst K CM (.ref CM) = true) (hne : PySem.W.findIn K (.ref CM) "__ne__" = some (some (.builtin "object.__ne__"))) (hob : PySem.W.subIn K (.ref CM) (.type "object") = some true) (ob : OffB K CM) (ko : KoF K CM)
    (hP : Cl P w K mg base 2 "_law_pick" ["_law_dice_here", "_law_items"] spPick) (hW : Cl P w K mg base 3 "_law_words" ["_law_dice_here", "_law_kinds"] spWords) (hR : Cl P w K mg base 8 "_law_right" ["_law_marking", "_law_plan", "_law_kinds"] (spRight CM)) (hA : Cl P w K mg base 1 "_law_all_words" ["_law_plan", "_law_kinds"] spAll)
    (hC : Cl P w K mg base 1 "_law_changed" ["_law_plan", "_law_kinds", "_law_kind", "_law_word"] spChanged) (hT : Cl P w K mg base 1 "_law_told" ["_law_plan"] spTold) (mM : mg "Marking" = some (.ref CM)) (cr : CRead K CM mc) (cO : CMet K CM mc "of" pO fO) (GO : FnR P w K mg base CX0 6 fO (spOf CM CT))
    (GI : FnOk P w K mg base CX0 7 fI fdI ["self", "kind", "word"] (spWith CM CM CT)) (bI : Binds K fdI ["self", "kind", "word"] []) (mI : Meth K CM "with_word" fI) (GE : FnOk P w K mg base CX0 4 fE fdE ["self", "other"] (spEq K CM CM)) (bE : Binds K fdE ["self", "other"] []) (sE : SpF K CM "__eq__" fE)
    (GS : FnOk P w K mg base CX0 1 fS fdS ["self"] (spStr CM)) (bS : Binds K fdS ["self"] []) (sS : SpF K CM "__str__" fS) : FnOk P w K mg base CX0 10 f fd ["_law_dice_here", "_law_kinds"] spTurn := by
  obtain ⟨fP, fdP, GP, mP, kP, bP⟩ := hP
  obtain ⟨fW, fdW, GW, mW, kW, bW⟩ := hW
  obtain ⟨fR, fdR, GR, mR, kR, bR⟩ := hR
  obtain ⟨fA, fdA, GA, mA, kA, bA⟩ := hA
  obtain ⟨fC, fdC, GC, mC, kC, bC⟩ := hC
  obtain ⟨fT, fdT, GT, mT, kT, bT⟩ := hT
  refine F.ok scTurn (fun vs H Q E h => ?_) (fun cdv A outer s H vs Q E hr h => ?_)
  · obtain ⟨p, q, x, y, z, ks, rfl, _⟩ := h
    rfl
  · obtain ⟨p, q, x, y, z, ks, rfl, D, hq, hk, fin⟩ := h
    have hu := hu_of hr
    have hrP : Room 2 _ := hr.mono (by decide)
    have hrW : Room 3 _ := hr.mono (by decide)
    have hrR : Room 8 _ := hr.mono (by decide)
    have hrA : Room 1 _ := hr.mono (by decide)
    have hrC : Room 1 _ := hr.mono (by decide)
    have hrT : Room 1 _ := hr.mono (by decide)
    have hrO : Room 6 _ := hr.mono (by decide)
    have hrI : Room 7 _ := hr.mono (by decide)
    have hrE : Room 5 _ := hr.mono (by decide)
    have hrE4 : Room 4 _ := hr.mono (by decide)
    have hrS : Room 3 _ := hr.mono (by decide)
    have hrD := hr
    have oE : ∀ E, OwnM (cxOf CX0 P w K mg base nTurn "_law_turn" (defScope sTurn) f cdv A outer s H E).nox CX0 4 CM "__eq__" fE fdE ["self", "other"] (spEq K CM CM) E0 := fun E => ⟨GE, bE, pass0, sE.s, sE.fn⟩
    have oS : ∀ E, OwnM (cxOf CX0 P w K mg base nTurn "_law_turn" (defScope sTurn) f cdv A outer s H E).nox CX0 1 CM "__str__" fS fdS ["self"] (spStr CM) E0 := fun E => ⟨GS, bS, pass0, sS.s, sS.fn⟩
    refine ⟨_, (pss_cons (ps_set (i := 2) scTurn.nd rfl (Or.inr rfl) (pe_call GW hrW (by rfl) mW kW bW .nil pass0 (pa_cons (pv 0) (pa_cons (pv 1) pa_nil))))
      (pss_cons (ps_set (i := 3) scTurn.nd rfl (Or.inl rfl) (pe_cmeth (pe_glob (v := .ref CM) rfl mM rfl) cr cO GO hrO pass0 (pa_cons (pv 2) pa_nil)))
      (pss_cons (ps_set (i := 4) scTurn.nd rfl (Or.inl rfl) (pe_cmeth (pe_glob (v := .ref CM) rfl mM rfl) cr cO GO hrO pass0 (pa_cons (pe_callTy (call_dictP rfl) (by rfl) T.dict (by decide +kernel) (pa_cons (pe_revL (pe_listItems rfl (pv 2) (by rfl) T.list (by decide +kernel))) pa_nil)) pa_nil)))
      (pss_cons (ps_set (i := 6) scTurn.nd rfl (Or.inl rfl) (pe_cmeth (pe_glob (v := .ref CM) rfl mM rfl) cr cO GO hrO pass0 (pa_cons (pe_callTy (call_dictP rfl) (by rfl) T.dict (by decide +kernel) (pa_cons (pe_lc (own := [("_law_kind", 5)]) (g := gName 5) (tt := tYes) rfl scTurn.nd (pi_list (pe_op op_cat (pv 1) (pe_lst (pa_cons pe_str pa_nil)))) (blkOk_by (own := [("_law_kind", 5)]) (N := nTurn) (sc := defScope sTurn) (by decide +kernel)) (fun _ _ _ _ _ => pg_name (i := 5) scTurn.nd rfl (Or.inl rfl)) (fun _ _ _ _ _ => pts_nil) (fun _ _ _ _ _ => (pe_tup (pa_cons (pv 5) (pa_cons (pe_dget2 hu (pv 2) (pv 5) (pe_dget hu (pv 2) pe_str (fun _ _ => rfl)) ⟨rfl, rfl, rfl, rfl⟩) pa_nil))))) pa_nil)) pa_nil)))
      (pss_cons (ps_if (PW.pt (pw_or (pt_not (pt_val (pe_call GR hrR (by rfl) mR kR bR .nil pass0 (pa_cons (pv 3) (pa_cons (pv 2) (pa_cons (pv 1) pa_nil)))))) (pw_or (pt_cmpR (op_neO (oE _) hne hob hrE) (pv 3) (pv 4) (nomark _)) (pw_or1 (pt_cmpR (op_neO (oE _) hne hob hrE) (pv 3) (pv 6) (nomark _)))))) (pss_one (ps_ret pe_bl)) pss_nil)
      (pss_cons (ps_for PassesOwn.never rfl (pi_range1 (by rfl) T.rng (pa_cons pe_int pa_nil)) (pg_name (i := 7) scTurn.nd rfl (Or.inl rfl)) (pss_cons (ps_par (i := 5) (j := 8) rfl scTurn.nd rfl rfl (by decide) rfl rfl (pa_cons (pe_call GP hrP (by rfl) mP kP bP .nil pass0 (pa_cons (pv 0) (pa_cons (pe_op op_cat (pv 1) (pe_lst (pa_cons pe_str (pa_cons pe_str pa_nil)))) pa_nil))) (pa_cons (pe_call GP hrP (by rfl) mP kP bP .nil pass0 (pa_cons (pv 0) (pa_cons (pe_lst (pa_cons pe_str (pa_cons pe_str (pa_cons pe_str pa_nil)))) pa_nil))) pa_nil)) (by rfl))
      (pss_cons (ps_par (i := 9) (j := 10) rfl scTurn.nd rfl rfl (by decide) rfl rfl (pa_cons (pe_meth (pv 3) cf.cl mI GI hrI bI .nil pass0 (pa_cons (pv 5) (pa_cons (pv 8) pa_nil))) (pa_cons (pe_call GC hrC (by rfl) mC kC bC .nil pass0 (pa_cons (pv 2) (pa_cons (pv 1) (pa_cons (pv 5) (pa_cons (pv 8) pa_nil))))) pa_nil)) (by rfl))
      (pss_cons (ps_if (pt_cmpR op_eq (pv 5) pe_str (nomark _)) (pss_one (ps_set (i := 10) scTurn.nd rfl (Or.inl rfl) (pe_callTy (call_dictP rfl) (by rfl) T.dict (by decide +kernel) (pa_cons (pe_op op_cat (pe_lc (own := [("_law_one", 13)]) (g := gName 13) (tt := tYes) rfl scTurn.nd (pi_list (pe_call GT hrT (by rfl) mT kT bT .nil pass0 (pa_cons (pv 2) pa_nil))) (blkOk_by (own := [("_law_one", 13)]) (N := nTurn) (sc := defScope sTurn) (by decide +kernel)) (fun _ _ _ _ _ => pg_name (i := 13) scTurn.nd rfl (Or.inl rfl)) (fun _ _ _ _ _ => pts_nil) (fun _ _ _ _ _ => (pe_tup (pa_cons (pv 13) (pa_cons (pe_dget hu (pv 2) (pv 13) (fun _ _ => rfl)) pa_nil))))) (pe_lst (pa_cons (pe_tup (pa_cons pe_str (pa_cons (pv 8) pa_nil))) pa_nil))) pa_nil)))) pss_nil)
      (pss_one (ps_if (PW.pt (pw_or (pt_not (pt_val (pe_call GR hrR (by rfl) mR kR bR .nil pass0 (pa_cons (pv 9) (pa_cons (pv 10) (pa_cons (pv 1) pa_nil)))))) (pw_or1 (pt_not (pt_val (pe_call GR hrR (by rfl) mR kR bR .nil pass0 (pa_cons (pv 3) (pa_cons (pv 2) (pa_cons (pv 1) pa_nil))))))))) (pss_one (ps_ret pe_bl)) pss_nil))))))
      (pss_cons (ps_set (i := 11) scTurn.nd rfl (Or.inl rfl) (pe_call GW hrW (by rfl) mW kW bW .nil pass0 (pa_cons (pv 0) (pa_cons (pv 1) pa_nil))))
      (pss_cons (ps_set (i := 12) scTurn.nd rfl (Or.inl rfl) (pe_cmpR (op_eqD hrD.units) (pe_call GA hrA (by rfl) mA kA bA .nil pass0 (pa_cons (pv 2) (pa_cons (pv 1) pa_nil))) (pe_call GA hrA (by rfl) mA kA bA .nil pass0 (pa_cons (pv 11) (pa_cons (pv 1) pa_nil))) (nomark _)))
      (pss_one (ps_ret (pe_and (pe_cmpR op_eq (pe_cmpR (op_eqO (oE _) hrE4) (pv 3) (pe_cmeth (pe_glob (v := .ref CM) rfl mM rfl) cr cO GO hrO pass0 (pa_cons (pv 11) pa_nil)) (nomark _)) (pv 12) (nomark _)) (pe_one (pe_cmpR (op_notInO (oE _) ob hrE) (pv 3) (pe_lst (pa_cons (pv 2) (pa_cons (pe_callTy (call_strO (oS _) hrS) (by rfl) T.str (by decide +kernel) (pa_cons (pv 3) pa_nil)) (pa_cons pe_non (pa_cons pe_int (pa_cons (pe_tup pa_nil) pa_nil)))))) (by rfl)))))))))))))), ?_⟩
    have hsz : (1000 : Nat) ≤ sizeLine := by rw [sizeLine_eq]; decide
    have hk5 := hk.1
    have hnm : ∀ k ∈ ks, nm k = true := fun k hk' => (kinds_at hk hk').1
    have nqp : q ≠ p := ne_of hq D.at_ (by
      intro e
      injection e with e
      cases ks with
      | nil => cases e
      | cons a ks => cases e)
    refine ⟨_, rfl, _, rfl, p, q, x, y, z, ks, rfl, D, hq, hk, fun d pl x1 z1 G1 D1 s1 nd1 hd1 hpl => ?_⟩
    have ok := plan_wok hnm hpl
    have hpl8 := hpl.len
    have nsl : slf ∉ pl.map (·.1) := slf_not hk fun k hk' => (hpl.keys k hk').elim .inl fun e => .inr (.inl e)
    have hq1 := s1 q _ nqp hq
    refine ⟨rfl, _, rfl, d, pl, rfl, hd1, ok, by omega, fun G2 a ws r s2 na m c => ?_⟩
    rw [cls_cm nsl] at m
    have kp := canon_kept ok c
    refine ⟨rfl, _, rfl, d, wd pl, rfl, s2 _ _ hd1, fun G3 pi ts s3 npi nts npt hpi hts => ⟨pi, ts.map V.ref, rfl, SqL.of hpi, fun pr hpr => ⟨pr, ts.reverse, wd pl.reverse, rfl, SqL.of (upd_same.trans (by rw [List.map_reverse])), ?_, fun e he => ?_⟩⟩⟩
    · rw [show wd pl.reverse = (wd pl).reverse from List.map_reverse]
      exact paired_rev (Paired.mapP hts fun t kv ht => .inl (.inl (same_upd hpr _ _ ht)))
    rw [merge_nil (wok_rev ok).nd]
    refine ⟨e, pl.reverse, rfl, upd_same, wok_rev ok, by rw [List.length_reverse]; omega, fun G4 a2 ws2 r2 s4 na2 m2 c2 => ?_⟩
    have nsl2 : slf ∉ pl.reverse.map (·.1) := fun z => nsl (((List.reverse_perm pl).map (·.1)).mem_iff.mp z)
    rw [cls_cm nsl2] at m2
    have c2' := canon_rev ok.nd c2
    have s24 : Same G2 G4 := ((Same.trans s3 (same_upd hpr)).trans (same_upd he)).trans s4
    have s14 : Same G1 G4 := s2.trans s24
    obtain ⟨e1, e2⟩ := canon_eq c2' c rfl fun _ => rfl
    subst e1
    subst e2
    have m4 : MkAt CM G4 a ws2 r2 := m.same s24
    have hd4 := s14 _ _ hd1
    have hq4 := s14 _ _ hq1
    refine ⟨rfl, _, rfl, by show 1 ≤ sizeLine; omega, fun l hl => ⟨q, l, _, _, rfl, rfl, by rw [upd_ne (ne_of_none hq4 hl)]; exact hq4, upd_same, by rw [List.length_map]; simp only [List.length_cons, List.length_nil]; omega, fun pc hpc => ?_⟩⟩
    have ek : ks.map V.str ++ [V.str "other"] = (ks ++ [oth]).map V.str := by rw [List.map_append]; rfl
    rw [ek]
    have s5 : Same G4 (upd (upd G4 l (.lst [V.str "other"])) pc (.lst ((ks ++ [oth]).map V.str))) := (same_upd hl).trans (same_upd hpc)
    have hp5 : (upd (upd G4 l (.lst [V.str "other"])) pc (.lst ((ks ++ [oth]).map V.str))) pc = some (.lst ((ks ++ [oth]).map V.str)) := upd_same
    generalize upd (upd G4 l (.lst [V.str "other"])) pc (.lst ((ks ++ [oth]).map V.str)) = G5 at s5 hp5 ⊢
    refine ⟨pc, rfl, ⟨_, SqL.of hp5⟩, fun Dd n0 => ?_⟩
    have hlen : (ks ++ [oth]).length ≤ 6 := by rw [List.length_append, List.length_singleton]; omega
    have hpD : pc ≠ Dd := ne_of_none hp5 n0
    refine lc_gr (J := Itl K pc) (H1 := G5) (D := Dd) (n := (ks ++ [oth]).length) (fun i ys G => Same G5 G ∧ ∃ ts, ys = ts.map V.ref ∧ Paired (fun (t : Addr) (k : S) => G t = some (.tup [.str k, .str (gw pl (rest pl) k)])) ts ((ks ++ [oth]).take i)) (by omega)
      (fun i ys G ⟨hS, _⟩ hi => ⟨_, .str (ks ++ [oth])[i], SqL.of (hS _ _ hp5), by rw [List.getElem?_map, List.getElem?_eq_getElem hi]; rfl⟩) (fun ys G ⟨hS, _⟩ => ⟨_, SqL.of (hS _ _ hp5), by rw [List.length_map]; exact Nat.le_refl _⟩)
      ⟨same_upd n0, [], rfl, .nil⟩ (fun i x ys G G' R Nn hi hD hP hy hR hN => ⟨rfl, ?_⟩) (fun ys G hD hP => ?_)
    · obtain ⟨hS, ts, rfl, hts⟩ := hP
      obtain ⟨rfl, hx⟩ := hy
      have hxi := hx _ (SqL.of (hS _ _ hp5))
      rw [List.getElem?_map, List.getElem?_eq_getElem hi] at hxi
      obtain rfl : V.str (ks ++ [oth])[i] = x := Option.some.inj hxi
      have hd6 := hS _ _ (s5 _ _ hd4)
      have g2 := dg_mem hd6 hpl.has
      rw [rest_of hpl.has] at g2
      refine ⟨_, rfl, _, rfl, d, rfl, .inl ⟨_, .inl hd6⟩, _, rfl, _, rfl, d, _, rfl, g2, _, DGet.k (k := Sum.inr (ks ++ [oth])[i]) hd6, ?_⟩
      rw [val_gw]
      refine ⟨by show 2 ≤ sizeLine; omega, fun tt htt => hR _ _ (by rw [upd_ne (ne_of_none hD htt)]; exact hD) ⟨fun b o eb => ?_, ts ++ [tt], by rw [List.map_append]; rfl, ?_⟩⟩
      · rw [upd_ne (ne_of_none eb n0), upd_ne (ne_of_none (hS _ _ eb) htt)]
        exact hS _ _ eb
      · rw [List.take_add_one, List.getElem?_eq_getElem hi]
        have nDt : Dd ≠ tt := ne_of_none hD htt
        refine Paired.snoc (Paired.mapP hts fun t k ht => ?_) (by rw [upd_ne nDt.symm]; exact upd_same)
        have htD : t ≠ Dd := ne_of ht hD (fun z => nomatch z)
        rw [upd_ne htD, upd_ne (ne_of_none ht htt)]
        exact ht
    obtain ⟨hS, ts, rfl, hts⟩ := hP
    rw [List.take_length] at hts
    refine ⟨Dd, ts, wd (fullP ks pl), rfl, SqL.of hD, paired_fn hts, fun e2 he2 => ?_⟩
    have okf := full_wok hk hpl ok
    rw [merge_nil okf.nd]
    refine ⟨e2, fullP ks pl, rfl, upd_same, okf, by have := okf.len; have h9 := congrArg List.length (full_keys (ks := ks) (pl := pl)); rw [List.length_map, List.length_append, List.length_singleton] at h9; omega, fun G6 a3 ws3 r3 s6 na3 m3 c3 => ?_⟩
    have nsl3 : slf ∉ (fullP ks pl).map (·.1) := slf_not hk fun k hk' => by
      rw [full_keys, List.mem_append, List.mem_singleton] at hk'
      exact hk'.elim .inl fun e => .inr (.inl e)
    rw [cls_cm nsl3] at m3
    have c3' := canon_full hpl c3
    obtain ⟨e1, e3⟩ := canon_eq c3' c2' rfl fun _ => rfl
    subst e1
    subst e3
    have s46 : Same G4 G6 := ((s5.trans hS).trans (same_upd he2)).trans s6
    have s16 : Same G1 G6 := s14.trans s46
    have m6 := m4.same s46
    have m26 := m2.same s46
    have hd6 := s16 _ _ hd1
    have hq6 := s16 _ _ hq1
    have m36 := m3
    refine ⟨_, rfl, _, rfl, _, rfl, a, d, q, _, pl, _, ks, rfl, m6, hd6, ok, hpl.has, c, hq6, by omega, hnm, fun G7 s7 => ⟨true, rfl, ?_⟩⟩
    obtain ⟨dxa, dma, ha7, hma7⟩ := (m6.same s7).ex
    obtain ⟨dx2, dm2, h27, hm27⟩ := (m26.same s7).ex
    refine ⟨_, rfl, _, rfl, a, dxa, _, .ref CM, rfl, ha7, .base (.ins h27 cf.cl is.ha is.hn is.htk is.hm), nf, a, _, _, _, rfl, ⟨dxa, dma, ha7, hma7⟩, kp.fine, .inl ⟨a2, _, _, rfl, ⟨dx2, dm2, h27, hm27⟩, kp.fine, fun G8 s8 => ⟨_, rfl, _, rfl, ?_⟩⟩⟩
    rw [eqW_refl]
    obtain ⟨dx3, dm3, h38, hm38⟩ := ((m36.same s7).same s8).ex
    have ha8 := s8 _ _ ha7
    refine ⟨_, rfl, _, rfl, a, dxa, _, .ref CM, rfl, ha8, .base (.ins h38 cf.cl is.ha is.hn is.htk is.hm), nf, a, _, _, _, rfl, ⟨dxa, dma, ha8, s8 _ _ hma7⟩, kp.fine, .inl ⟨a3, _, _, rfl, ⟨dx3, dm3, h38, hm38⟩, kp.fine, fun G9 s9 => ⟨_, rfl, _, rfl, ?_⟩⟩⟩
    rw [eqW_refl]
    have s69 : Same G6 G9 := (s7.trans s8).trans s9
    have s19 : Same G1 G9 := s16.trans s69
    have m9 := m6.same s69
    have hd9 := s19 _ _ hd1
    have hq9 := s19 _ _ hq1
    have D9 : Dice G9 p x1 y z1 := D1.same s19
    have P9 : ∀ b o, b ≠ p → H b = some o → G9 b = some o := fun b o hb e => s19 _ _ (s1 b o hb e)
    refine ⟨4, rfl, by decide, by decide, for_range (n := 4) (fun i σ G => ∃ (v5 v7 v8 v9 v10 : Option V) (x' z' : Int), σ = [some (.ref p), some (.ref q), some (.ref d), some (.ref a), some (.ref a2), v5, some (.ref a3), v7, v8, v9, v10, none, none, none] ∧ Dice G p x' y z' ∧ MkAt CM G a ws3 r3 ∧ G d = some (.dK (wd pl)) ∧ G q = some (.lst (ks.map V.str)) ∧ ∀ b o, b ≠ p → H b = some o → G b = some o)
      ⟨_, _, _, _, _, x1, z1, rfl, D9, m9, hd9, hq9, P9⟩ ?_ ?_⟩
    · rintro i σ G hi ⟨v5, v7, v8, v9, v10, x', z', rfl, DG, mG, hdG, hqG, PG⟩
      refine ⟨_, rfl, _, rfl, by show 2 ≤ sizeLine; omega, fun l hl => ⟨q, l, _, _, rfl, rfl, by rw [upd_ne (ne_of_none hqG hl)]; exact hqG, upd_same, by rw [List.length_map]; simp only [List.length_cons, List.length_nil]; omega, fun pc hpc => ?_⟩⟩
      have ek2 : ks.map V.str ++ [V.str "other", V.str "fresh"] = (ks ++ [oth, "fresh"]).map V.str := by rw [List.map_append]; rfl
      rw [ek2]
      have sA : Same G (upd (upd G l (.lst [V.str "other", V.str "fresh"])) pc (.lst ((ks ++ [oth, "fresh"]).map V.str))) := (same_upd hl).trans (same_upd hpc)
      have hpcA : (upd (upd G l (.lst [V.str "other", V.str "fresh"])) pc (.lst ((ks ++ [oth, "fresh"]).map V.str))) pc = some (.lst ((ks ++ [oth, "fresh"]).map V.str)) := upd_same
      have DA : Dice (upd (upd G l (.lst [V.str "other", V.str "fresh"])) pc (.lst ((ks ++ [oth, "fresh"]).map V.str))) p x' y z' := DG.same sA
      have npc : p ≠ pc := ne_of_none ((DG.upd hl).at_) hpc
      generalize upd (upd G l (.lst [V.str "other", V.str "fresh"])) pc (.lst ((ks ++ [oth, "fresh"]).map V.str)) = GA at sA hpcA DA ⊢
      have hl7 : ((ks ++ [oth, "fresh"]).map V.str).length = ks.length + 2 := by rw [List.length_map, List.length_append]; rfl
      refine ⟨p, pc, x', y, z', _, rfl, DA, npc, hpcA, by rw [hl7]; omega, by rw [hl7]; omega, fun j v x2 z2 G2' hv D2 hz2 sP2 => ?_⟩
      obtain ⟨kd, hkd, rfl⟩ := str_at hv
      refine ⟨_, rfl, by show 3 ≤ sizeLine; omega, fun l3 hl3 => ?_⟩
      have nl3 : p ≠ l3 := ne_of_none D2.at_ hl3
      refine ⟨p, l3, x2, y, z2, _, rfl, D2.upd hl3, nl3, upd_same, by show 0 < 3; decide, by show 3 < 1000; decide, fun j2 v2 x3 z3 GB hv2 DB hz3 sP3 => ⟨_, _, rfl, ?_⟩⟩
      obtain ⟨wv, rfl, hwv⟩ := w3_mem hv2
      have keepB : ∀ b o, b ≠ p → G b = some o → GB b = some o := fun b o hb e => sP3 b o hb (same_upd hl3 _ _ (sP2 b o hb (sA _ _ e)))
      have ndp : d ≠ p := ne_of hdG DG.at_ (fun z => nomatch z)
      have mB := mG.keep DG.at_ keepB
      have hdB := keepB d _ ndp hdG
      have hqB := keepB q _ nqp hqG
      have PB : ∀ b o, b ≠ p → H b = some o → GB b = some o := fun b o hb e => keepB b o hb (PG b o hb e)
      have hkn : nm kd = true := by
        rcases List.mem_append.mp hkd with z | z
        · exact hnm kd z
        · have hx' : kd = oth ∨ kd = "fresh" := by simpa using z
          rcases hx' with e | e <;> subst e <;> decide +kernel
      obtain ⟨dxB, dmB, haB, hmB⟩ := mB.ex
      have kl := kp.len
      refine ⟨_, rfl, a, dxB, _, rfl, haB, no_lk (by decide +kernel) (by decide +kernel), _, rfl, _, rfl, a, _, _, kd, wv, rfl, mB, kp.fine, kp.nd, kp.no, by omega, hkn, hwv, fun GC b us q' sC nb mb cb => ?_⟩
      have nslA : slf ∉ (putS (ws3 ++ [(oth, r3)]) kd wv).map (·.1) := slf_not hk fun k hk' => by
        rcases mem_put.mp hk' with z | z
        · rw [List.map_append, List.mem_append] at z
          rcases z with z | z
          · exact (hpl.keys k (kp.sub k z)).elim .inl fun e => .inr (.inl e)
          · exact .inr (.inl (List.mem_singleton.mp z))
        · rw [z]
          rcases List.mem_append.mp hkd with z | z
          · exact .inl z
          · have hx' : kd = oth ∨ kd = "fresh" := by simpa using z
            exact .inr hx'
      rw [cls_cm nslA] at mb
      refine ⟨_, rfl, _, rfl, _, rfl, _, rfl, d, q, kd, wv, pl, rfl, sC _ _ hdB, hpl.nd, by omega, fun e0 GD sD ne0 he0 => ⟨_, _, rfl, ?_⟩⟩
      have sBD := sC.trans sD
      replace mb := mb.same sD
      replace mB := mB.same sBD
      replace hdB := sBD _ _ hdB
      replace hqB := sBD _ _ hqB
      replace DB := DB.same sBD
      replace PB : ∀ b o, b ≠ p → H b = some o → GD b = some o := fun b o hb e => sBD _ _ (PB b o hb e)
      refine ⟨_, rfl, rfl, _, rfl, ?_⟩
      refine ite2 (fun heq => ?_) (fun hneq => ?_)
      · have ho : kd = oth := V.str.inj (of_decide_eq_true heq)
        subst ho
        rw [put_oth kp.no] at cb
        refine ⟨_, rfl, d, pl, rfl, hdB, ok, hpl.has, fun t0 us2 GE sE nt0 cu2 ht0 => ?_⟩
        obtain ⟨e4, _⟩ := canon_eq cu2 c rfl fun _ => rfl
        subst e4
        refine ⟨t0, rfl, ⟨_, SqL.of ht0⟩, fun Dd n0 => ?_⟩
        have hln : ((us2.map (·.1))).length ≤ 8 := by rw [List.length_map]; omega
        refine lc_gr (J := Itl K t0) (H1 := GE) (D := Dd) (n := (us2.map (·.1)).length) (fun i ys G => Same GE G ∧ ∃ ts, ys = ts.map V.ref ∧ Paired (fun (t : Addr) (k : S) => G t = some (.tup [.str k, .str (gw pl (rest pl) k)])) ts ((us2.map (·.1)).take i)) (by omega)
          (fun i ys G ⟨hS, _⟩ hi => ⟨_, .str (us2.map (·.1))[i], SqL.of (hS _ _ ht0), by rw [List.getElem?_map, List.getElem?_eq_getElem hi]; rfl⟩) (fun ys G ⟨hS, _⟩ => ⟨_, SqL.of (hS _ _ ht0), by rw [List.length_map]; exact Nat.le_refl _⟩)
          ⟨same_upd n0, [], rfl, .nil⟩ (fun i x ys G G' R Nn hi hD hP hy hR hN => ⟨rfl, ?_⟩) (fun ys G hD hP => ?_)
        · obtain ⟨hS, ts, rfl, hts⟩ := hP
          obtain ⟨rfl, hx⟩ := hy
          have hxi := hx _ (SqL.of (hS _ _ ht0))
          rw [List.getElem?_map, List.getElem?_eq_getElem hi] at hxi
          obtain rfl : V.str (us2.map (·.1))[i] = x := Option.some.inj hxi
          have hd6 := hS _ _ (sE _ _ hdB)
          refine ⟨_, rfl, _, rfl, _, rfl, d, _, rfl, dg_mem hd6 (kp.sub _ (List.getElem_mem hi)), by show 2 ≤ sizeLine; omega, fun tt htt => hR _ _ (by rw [upd_ne (ne_of_none hD htt)]; exact hD) ⟨fun b o eb => ?_, ts ++ [tt], by rw [List.map_append]; rfl, ?_⟩⟩
          · rw [upd_ne (ne_of_none eb n0), upd_ne (ne_of_none (hS _ _ eb) htt)]
            exact hS _ _ eb
          · rw [List.take_add_one, List.getElem?_eq_getElem hi]
            have nDt : Dd ≠ tt := ne_of_none hD htt
            refine Paired.snoc (Paired.mapP hts fun t k ht => ?_) (by rw [upd_ne nDt.symm]; exact upd_same)
            have htD : t ≠ Dd := ne_of ht hD (fun z => nomatch z)
            rw [upd_ne htD, upd_ne (ne_of_none ht htt)]
            exact ht
        obtain ⟨hS, ts, rfl, hts⟩ := hP
        rw [List.take_length] at hts
        refine ⟨_, rfl, by show 2 ≤ sizeLine; omega, fun t8 ht8 => ⟨by show 1 ≤ sizeLine; omega, fun l8 hl8 => ?_⟩⟩
        have hDl : ts.length = (us2.map (·.1)).length := Paired.length hts
        have sJ := (same_upd (o := .tup [V.str "other", V.str wv]) ht8).trans (same_upd (o := .lst [V.ref t8]) hl8)
        have hDj := sJ _ _ hD
        have htj : (upd (upd G t8 (.tup [V.str "other", V.str wv])) l8 (.lst [V.ref t8])) t8 = some (.tup [V.str "other", V.str wv]) := same_upd hl8 _ _ upd_same
        refine ⟨Dd, l8, _, _, rfl, rfl, hDj, upd_same, by rw [List.length_map]; simp only [List.length_cons, List.length_nil]; omega, fun pc2 hpc2 => ?_⟩
        have sK := sJ.trans (same_upd (o := .lst (ts.map V.ref ++ [V.ref t8])) hpc2)
        have pfin : Paired (fun (t : Addr) (q : Key × V) => SqT K (upd (upd (upd G t8 (.tup [V.str "other", V.str wv])) l8 (.lst [V.ref t8])) pc2 (.lst (ts.map V.ref ++ [V.ref t8]))) t [kV q.1, q.2]) (ts ++ [t8]) (wd (us2 ++ [(oth, wv)])) := by
          have p1 := paired_fn (K := K) (f := gw pl (rest pl)) (Paired.mapP hts fun t k ht => sK _ _ ht)
          rw [kept_back kp] at p1
          unfold wd
          rw [List.map_append]
          exact Paired.snoc p1 (.inl (.inl (same_upd hpc2 _ _ htj)))
        refine ⟨pc2, ts ++ [t8], wd (us2 ++ [(oth, wv)]), rfl, SqL.of (upd_same.trans (by rw [List.map_append]; rfl)), pfin, fun e3 he3 => ?_⟩
        have okD : Wok (us2 ++ [(oth, wv)]) := by
          have := (wok_with (r := r3) (k := oth) (v := wv) kp.fine kp.nd kp.no (by omega) nm_oth hwv).1
          rw [put_oth kp.no] at this
          exact this
        rw [merge_nil okD.nd]
        have sBF : Same GD (upd (upd (upd (upd G t8 (.tup [V.str "other", V.str wv])) l8 (.lst [V.ref t8])) pc2 (.lst (ts.map V.ref ++ [V.ref t8]))) e3 (.dK (wd (us2 ++ [(oth, wv)])))) := ((sE.trans hS).trans sK).trans (same_upd he3)
        refine ⟨_, rfl, _, rfl, _, rfl, b, e3, q, _, (us2 ++ [(oth, wv)]), _, ks, rfl, mb.same sBF, upd_same, okD, by simp, cb, sBF _ _ hqB, by omega, hnm, fun G11 s11 => ⟨true, rfl, _, rfl, _, rfl, _, rfl, a, d, q, _, pl, _, ks, rfl, (mB.same sBF).same s11, s11 _ _ (sBF _ _ hdB), ok, hpl.has, c, s11 _ _ (sBF _ _ hqB), by omega, hnm, fun G12 s12 => ⟨true, rfl, ?_⟩⟩⟩
        have sE12 := (sBF.trans s11).trans s12
        exact ⟨_, _, _, _, _, x3, z3, rfl, DB.same sE12, mB.same sE12, sE12 _ _ hdB, sE12 _ _ hqB, fun b' o hb e => sE12 _ _ (PB b' o hb e)⟩
      · have ho : kd ≠ oth := fun e => hneq (by rw [e]; exact decide_eq_true rfl)
        · refine ⟨_, rfl, _, rfl, _, rfl, b, e0, q, _, (putS pl kd wv), _, ks, rfl, mb.same (Same.refl _), he0, (wok_put ok (by omega) hkn hwv), (mem_put.mpr (.inl hpl.has)), (canon_with ok c hpl.has ho cb), hqB, by omega, hnm, fun G11 s11 => ⟨true, rfl, _, rfl, _, rfl, _, rfl, a, d, q, _, pl, _, ks, rfl, mB.same s11, s11 _ _ hdB, ok, hpl.has, c, s11 _ _ hqB, by omega, hnm, fun G12 s12 => ⟨true, rfl, ?_⟩⟩⟩
          have sE12 := s11.trans s12
          exact ⟨_, _, _, _, _, x3, z3, rfl, DB.same sE12, mB.same sE12, sE12 _ _ hdB, sE12 _ _ hqB, fun b' o hb e => sE12 _ _ (PB b' o hb e)⟩
    · rintro σ G ⟨v5, v7, v8, v9, v10, x', z', rfl, DG, mG, hdG, hqG, PG⟩
      refine ⟨_, rfl, _, rfl, p, q, x', y, z', ks, rfl, DG, hqG, hk, fun d2 p2 x2 z2 GA DA sP nd2 hd2 hp2 => ?_⟩
      have ok2 := plan_wok hnm hp2
      have ndp : d ≠ p := ne_of hdG DG.at_ (fun z => nomatch z)
      have mA' := mG.keep DG.at_ sP
      have hdA := sP d _ ndp hdG
      have hqA := sP q _ nqp hqG
      have PA : ∀ b o, b ≠ p → H b = some o → GA b = some o := fun b o hb e => sP b o hb (PG b o hb e)
      refine ⟨_, rfl, _, rfl, d, q, pl, ks, rfl, hdA, hqA, hpl.has, by omega, fun lA GB sB nlA hlA => ?_⟩
      refine ⟨_, rfl, _, rfl, d2, q, p2, ks, rfl, sB _ _ hd2, sB _ _ hqA, hp2.has, by omega, fun lB GC sC nlB hlB => ?_⟩
      have w3ok : ∀ x : S, x ∈ W3 → PyData.strOk x = true := fun x hx => strOk_of fun c hc => by have := nm_small (w3_nm hx) c hc; omega
      have sk : ∀ (pp : List (S × S)), Wok pp → ∀ k ∈ ks.map (gw pp (rest pp)) ++ [rest pp], PyData.strOk k = true := fun pp okp k hk' => by
        rcases List.mem_append.mp hk' with z | z
        · obtain ⟨j, _, rfl⟩ := List.mem_map.mp z
          exact w3ok _ (gw_w3p okp j)
        · rw [List.mem_singleton.mp z]
          exact w3ok _ (rest_w3 okp.vs)
      refine ⟨.list ((ks.map (gw pl (rest pl)) ++ [rest pl]).map .str), .list ((ks.map (gw p2 (rest p2)) ++ [rest p2]).map .str), .lst (SqL.of (sC _ _ hlA)) (dp_strs _), .lst (SqL.of hlB) (dp_strs _), strs_shaped (sk pl ok), strs_shaped (sk p2 ok2), ?_⟩
      have sAC := sB.trans sC
      have nslB : slf ∉ p2.map (·.1) := slf_not hk fun k hk' => (hp2.keys k hk').elim .inl fun e => .inr (.inl e)
      refine ⟨_, rfl, rfl, _, rfl, d2, p2, rfl, sAC _ _ hd2, ok2, by have := hp2.len; omega, fun GD b us q' sD nb mb cb => ?_⟩
      rw [cls_cm nslB] at mb
      have kb := canon_kept ok2 cb
      have sAD := sAC.trans sD
      obtain ⟨dxD, dmD, haD, hmD⟩ := (mA'.same sAD).ex
      obtain ⟨dxb, dmb, hbD, hmb⟩ := mb.ex
      refine ⟨a, dxD, _, .ref CM, rfl, haD, .base (.ins hbD cf.cl is.ha is.hn is.htk is.hm), nf, a, _, _, _, rfl, ⟨dxD, dmD, haD, hmD⟩, kp.fine, .inl ⟨b, _, _, rfl, ⟨dxb, dmb, hbD, hmb⟩, kb.fine, fun GE' sE' => ⟨_, rfl, _, rfl, rfl, ?_⟩⟩⟩
      have sAE := sAD.trans sE'
      have hee : (V.bl (id (eqW ws3 r3 us q')) : V) = V.bl (PyData.eqv (.list ((ks.map (gw pl (rest pl)) ++ [rest pl]).map .str)) (.list ((ks.map (gw p2 (rest p2)) ++ [rest p2]).map .str))) := by
        simp only [PyData.eqv]
        rw [strs_eqv, words_eq hpl hp2 ok ok2 c cb]
        rfl
      rw [decide_eq_true hee]
      refine ⟨_, rfl, ?_⟩
      have haE := sE' _ _ haD
      have hmE := sE' _ _ hmD
      refine ⟨_, rfl, _, rfl, _, rfl, a, dxD, _, rfl, haE, a, _, _, rfl, ⟨dxD, dmD, haE, hmE⟩, kp.fine, fun GF sF => ⟨_, rfl, Nat.zero_le _, fun t0 ht0 => ⟨by show 5 ≤ sizeLine; omega, fun l5 hl5 => ?_⟩⟩⟩
      have sAG := ((sAE.trans sF).trans (same_upd (o := .tup []) ht0)).trans (same_upd (o := .lst [V.ref d, V.str (txt ws3 r3), V.non, V.int 0, V.ref t0]) hl5)
      have hd5 := sAG _ _ hdA
      have ht5 : (upd (upd GF t0 (.tup [])) l5 (.lst [V.ref d, V.str (txt ws3 r3), V.non, V.int 0, V.ref t0])) t0 = some (.tup []) := same_upd hl5 _ _ upd_same
      have m5 := mA'.same sAG
      obtain ⟨dx5, dm5, ha5, hm5⟩ := m5.ex
      have cases5 : ∀ {Pp : V → Prop}, Pp (.ref d) → Pp (.str (txt ws3 r3)) → Pp .non → Pp (.int 0) → Pp (.ref t0) → ∀ y ∈ ([V.ref d, V.str (txt ws3 r3), V.non, V.int 0, V.ref t0] : List V), Pp y := fun h1 h2 h3 h4 h5 y hy => by
        rcases List.mem_cons.mp hy with e | hy
        · rw [e]; exact h1
        rcases List.mem_cons.mp hy with e | hy
        · rw [e]; exact h2
        rcases List.mem_cons.mp hy with e | hy
        · rw [e]; exact h3
        rcases List.mem_cons.mp hy with e | hy
        · rw [e]; exact h4
        rw [List.mem_singleton.mp hy]
        exact h5
      refine ⟨a, dx5, _, l5, _, rfl, ha5, rfl, upd_same, cases5 (.dict hd5) (.str _) .non (.int _) (.tup ht5), ?_, fun H' s' => ?_⟩
      · refine cases5 (fun H' s' => ?_) (fun H' s' => ?_) (fun H' s' => ?_) (fun H' s' => ?_) (fun H' s' => ?_)
        · exact ⟨a, _, _, _, rfl, m5.same s', kp.fine, .inr ⟨_, .base (.dK (s' _ _ hd5)), ko.dict, rfl, Same.refl _⟩⟩
        · exact ⟨a, _, _, _, rfl, m5.same s', kp.fine, .inr ⟨_, .base (.str _), ko.str, rfl, Same.refl _⟩⟩
        · exact ⟨a, _, _, _, rfl, m5.same s', kp.fine, .inr ⟨_, .base .non, ko.non, rfl, Same.refl _⟩⟩
        · exact ⟨a, _, _, _, rfl, m5.same s', kp.fine, .inr ⟨_, .base (.int _), ko.int, rfl, Same.refl _⟩⟩
        · exact ⟨a, _, _, _, rfl, m5.same s', kp.fine, .inr ⟨_, .base (.tup (s' _ _ ht5)), ko.tup, rfl, Same.refl _⟩⟩
      · have sAH := sAG.trans s'
        exact fin x2 z2 H' (DA.same sAH) fun b o hb e => sAH _ _ (PA b o hb e)
end
end M46
/-! The law. -/
namespace M46
open PySem PySem.Spec PyProof.Rows L2 R0 K1 LiI ClX

def spLaw (K : PySem.W.Frag) : Sp := fun vs H Q _ => ∃ (a : Addr) (ns : List Int), vs = [.ref a] ∧ SqL K H a (ns.map V.int) ∧ ns.length ≤ 63 ∧ ∀ H', Q (.bl true) H'
theorem canon_one {v r : S} {us : List (S × S)} (c : Canon [(oth, v)] us r) : us = [] ∧ r = v := by
  have er : rest [(oth, v)] = v := by
    unfold rest
    rw [gw_cons, if_pos rfl]
  obtain ⟨rfl, ys, _, _, _, _, _, rfl⟩ := c
  rw [er]
  refine ⟨?_, rfl⟩
  unfold kept keep
  rw [List.filter_eq_nil_iff.mpr fun k _ => by simp [gw_cons, gw_nil]]
  rfl
theorem canon_nil {r : S} {us : List (S × S)} (c : Canon [] us r) : us = [] ∧ r = w0 := by
  obtain ⟨rfl, ys, _, _, _, _, _, rfl⟩ := c
  refine ⟨?_, rfl⟩
  unfold kept keep
  rw [List.filter_eq_nil_iff.mpr fun k _ => by simp [gw_nil]]
  rfl
def W5 : List (S × S) := [("self", w2), ("words", w1), ("other", w0), ("kinds", w0), ("cls", w2)]
def U5 : List (S × S) := [("cls", w2), ("self", w2), ("words", w1)]
theorem canon_five {r : S} {us : List (S × S)} (c : Canon W5 us r) : us = U5 ∧ r = w0 := by
  have er : rest W5 = w0 := by decide +kernel
  obtain ⟨rfl, ys, s, n, _, _, o, rfl⟩ := c
  refine ⟨?_, er⟩
  rw [er] at o ⊢
  have s0 : (["cls", "kinds", "other", "self", "words"] : List S).Pairwise Le := by decide +kernel
  have n0 : (["cls", "kinds", "other", "self", "words"] : List S).Nodup := by decide +kernel
  have e := kept_ext (f := gw W5 w0) (g := gw W5 w0) (r := w0) s s0 n n0 (fun _ => rfl) o fun k hk => gw_not fun z => hk (by
    have : W5.map (·.1) = (["self", "words", "other", "kinds", "cls"] : List S) := rfl
    rw [this] at z
    simp at z ⊢
    rcases z with z | z | z | z | z <;> simp [z])
  rw [e]
  decide +kernel
theorem wok_two : Wok [("report", w2), ("order", w1)] := ⟨by decide +kernel, by decide +kernel, by decide +kernel, by decide⟩
theorem wok_five : Wok W5 := ⟨by decide +kernel, by decide +kernel, by decide +kernel, by decide⟩
theorem make_kw2 {CM x dx : Addr} {H : Hp} {R : VK} {E : XK} {ws : List (S × S)} (ok : Wok ws) (hl : ws.length ≤ 39) (hs : slf ∉ ws.map (·.1)) (nx : H x = none) (nd : H dx = none) (nex : dx ≠ x) (q : ∀ (H' : Hp) (us : List (S × S)) (r : S), Same H H' → H x = none → MkAt CM H' x us r → Canon ws us r → R .non H') :
    spW "self" "other" (V.str w0) (spInit CM) (.ref x) (ws.map fun x => (x.1, V.str x.2)) (upd (upd H dx (.own x)) x (.ins CM dx [])) R E := by
  have s1 := made_same (C := CM) nx nd
  have hk : (ws.map fun x => (x.1, V.str x.2)).map (·.1) = ws.map (·.1) := by rw [List.map_map]; rfl
  refine ⟨by rw [hk]; exact hs, by rw [hk]; exact ok.nd, by rw [List.length_map]; omega, fun d hd => ?_⟩
  rw [kv_look_oth, kv_noOth]
  have hx : (upd (upd H dx (.own x)) x (.ins CM dx [])) x = some (.ins CM dx []) := upd_same
  have hxd : x ≠ d := ne_of_none hx hd
  refine ⟨x, dx, d, noOth ws, rest ws, rfl, by rw [upd_ne hxd]; exact hx, upd_same, wok_norm ok hl, fun H' us r s2 m c => q H' us r (fun b u e => ?_) nx m (canon_norm c)⟩
  have hbx : b ≠ x := ne_of_none e nx
  refine s2 b u hbx ?_
  rw [upd_ne (ne_of_none (s1 _ _ e) hd)]
  exact s1 _ _ e
abbrev nLaw : List S := ["_law_script", "_law_at", "_law_dice_here", "_law_kinds", "_law_turn_here", "_law_word", "_law_some"]
section
variable {P : Program} {w : World} {K : PySem.W.Frag} {mg : PySem.Str → Option Value} {base : Heap} {CM CT fO fV fI fE fS fL fG fK fM pO pV pK : Addr} {mc : Value} {fdI fdE fdS fdL fdG fdK : FuncData}
theorem scLaw : FnScope nLaw ["_law_script"] (defScope sLaw) := ⟨rfl, rfl, rfl, by decide +kernel, rfl, by decide +kernel, by decide +kernel⟩
theorem ok_law {f : Addr} {fd : FuncData} (F : Fun K "law" "law" sLaw f fd) (T : Bare mg) (cst : Cst K mg) (cf : ClsF K CM) (cfT : ClsF K CT) (is : IsF K CM CM) (nf : PySem.W.notFirst K CM (.ref CM) = true) (hne : PySem.W.findIn K (.ref CM) "__ne__" = some (some (.builtin "object.__ne__"))) (hob : PySem.W.subIn K (.ref CM) (.type "object") = some true) (nb : PySem.W.findIn K (.ref CM) "__bool__" = some none)
    (hD : Cl P w K mg base 1 "_law_dice" ["_law_script", "_law_at"] (spDice K)) (hU : Cl P w K mg base 1 "_law_pull" ["_law_dice_here", "_law_total"] spPull) (hN : Cl P w K mg base 2 "_law_names" ["_law_dice_here", "_law_total"] spNames) (hX : Cl P w K mg base 10 "_law_turn" ["_law_dice_here", "_law_kinds"] spTurn)
    (mM : mg "Marking" = some (.ref CM)) (cr : CRead K CM mc) (cO : CMet K CM mc "of" pO fO) (GO : FnR P w K mg base CX0 6 fO (spOf CM CT)) (cV : CMet K CM mc "even" pV fV) (GV : FnR P w K mg base CX0 6 fV (spEven CM)) (MM : Mk K CM fM) (GM : FnW P w K mg base CX0 4 fM (spW "self" "other" (V.str w0) (spInit CM)))
    (GI : FnOk P w K mg base CX0 7 fI fdI ["self", "kind", "word"] (spWith CT CM CT)) (bI : Binds K fdI ["self", "kind", "word"] []) (mI : Meth K CT "with_word" fI) (GE : FnOk P w K mg base CX0 4 fE fdE ["self", "other"] (spEq K CM CM)) (bE : Binds K fdE ["self", "other"] []) (sE : SpF K CM "__eq__" fE)
    (GS : FnOk P w K mg base CX0 1 fS fdS ["self"] (spStr CM)) (GST : FnOk P w K mg base CX0 1 fS fdS ["self"] (spStr CT)) (bS : Binds K fdS ["self"] []) (sS : SpF K CM "__str__" fS) (sST : SpF K CT "__str__" fS) (GL : FnOk P w K mg base CX0 1 fL fdL ["self"] (spLen CM)) (bL : Binds K fdL ["self"] []) (sL : SpF K CM "__len__" fL)
    (GG : FnOk P w K mg base CX0 2 fG fdG ["self", "at"] (spGet CT)) (bG : Binds K fdG ["self", "at"] []) (sG : SpF K CT "__getitem__" fG) (GK : FnOk P w K mg base CX0 1 fK fdK ["self"] (spKinds CM)) (bK : Binds K fdK ["self"] []) (pKK : PropOf K CM "kinds" pK fK) : FnOk P w K mg base CX0 11 f fd ["_law_script"] (spLaw K) := by
  obtain ⟨fD, fdD, GD, mD, kD, bD⟩ := hD
  obtain ⟨fU, fdU, GU, mU, kU, bU⟩ := hU
  obtain ⟨fN, fdN, GN, mN, kN, bN⟩ := hN
  obtain ⟨fX, fdX, GX, mX, kX, bX⟩ := hX
  obtain ⟨aW, mW, kW, hW⟩ := cst.ws
  have pK := pKK
  refine F.ok scLaw (fun vs H Q E h => ?_) (fun cdv A outer s H vs Q E hr h => ?_)
  · obtain ⟨a, ns, rfl, _⟩ := h
    rfl
  · obtain ⟨a, ns, rfl, hL, hlen, fin⟩ := h
    have hrD : Room 1 _ := hr.mono (by decide)
    have hrU : Room 1 _ := hr.mono (by decide)
    have hrN : Room 2 _ := hr.mono (by decide)
    have hrX : Room 10 _ := hr.mono (by decide)
    have hrO : Room 6 _ := hr.mono (by decide)
    have hrM : Room 5 _ := hr.mono (by decide)
    have hrI : Room 7 _ := hr.mono (by decide)
    have hrE : Room 5 _ := hr.mono (by decide)
    have hrS : Room 3 _ := hr.mono (by decide)
    have hrL : Room 2 _ := hr.mono (by decide)
    have hrB : Room 4 _ := hr.mono (by decide)
    have hrG : Room 3 _ := hr.mono (by decide)
    have hrK : Room 2 _ := hr.mono (by decide)
    have oE : ∀ E, OwnM (cxOf CX0 P w K mg base nLaw "law" (defScope sLaw) f cdv A outer s H E).nox CX0 4 CM "__eq__" fE fdE ["self", "other"] (spEq K CM CM) E0 := fun E => ⟨GE, bE, pass0, sE.s, sE.fn⟩
    have oS : ∀ E, OwnM (cxOf CX0 P w K mg base nLaw "law" (defScope sLaw) f cdv A outer s H E).nox CX0 1 CM "__str__" fS fdS ["self"] (spStr CM) E0 := fun E => ⟨GS, bS, pass0, sS.s, sS.fn⟩
    have oST : ∀ E, OwnM (cxOf CX0 P w K mg base nLaw "law" (defScope sLaw) f cdv A outer s H E).nox CX0 1 CT "__str__" fS fdS ["self"] (spStr CT) E0 := fun E => ⟨GST, bS, pass0, sST.s, sST.fn⟩
    have oL : ∀ E, OwnM (cxOf CX0 P w K mg base nLaw "law" (defScope sLaw) f cdv A outer s H E).nox CX0 1 CM "__len__" fL fdL ["self"] (spLen CM) E0 := fun E => ⟨GL, bL, pass0, sL.s, sL.fn⟩
    have oG : ∀ E, OwnM (cxOf CX0 P w K mg base nLaw "law" (defScope sLaw) f cdv A outer s H E).nox CX0 2 CT "__getitem__" fG fdG ["self", "at"] (spGet CT) E0 := fun E => ⟨GG, bG, pass0, sG.s, sG.fn⟩
    have fG := sG.fi
    refine ⟨_, (pss_cons (ps_for PassesOwn.never rfl (pi_range1 (by rfl) T.rng (pa_cons (pe_callB (call_max2 rfl) (by rfl) T.max (by decide +kernel) (pa_cons pe_int (pa_cons (pe_callB (call_min2 rfl) (by rfl) T.min (by decide +kernel) (pa_cons pe_int (pa_cons (pe_callB call_len_seq (by rfl) T.len PySem.boot_len (pa_cons (pv 0) pa_nil)) pa_nil))) pa_nil))) pa_nil)) (pg_name (i := 1) scLaw.nd rfl (Or.inl rfl)) (pss_cons (ps_set (i := 2) scLaw.nd rfl (Or.inl rfl) (pe_call GD hrD (by rfl) mD kD bD .nil pass0 (pa_cons (pv 0) (pa_cons (pv 1) pa_nil))))
      (pss_cons (ps_set (i := 3) scLaw.nd rfl (Or.inl rfl) (pe_call GN hrN (by rfl) mN kN bN .nil pass0 (pa_cons (pv 2) (pa_cons (pe_op op_add pe_int (pe_call GU hrU (by rfl) mU kU bU .nil pass0 (pa_cons (pv 2) (pa_cons pe_int pa_nil)))) pa_nil))))
      (pss_one (ps_for PassesOwn.never rfl (pi_range1 (by rfl) T.rng (pa_cons pe_int pa_nil)) (pg_name (i := 4) scLaw.nd rfl (Or.inl rfl)) (pss_one (ps_if (pt_not (pt_val (pe_call GX hrX (by rfl) mX kX bX .nil pass0 (pa_cons (pv 2) (pa_cons (pv 3) pa_nil))))) (pss_one (ps_ret pe_bl)) pss_nil)))))))
      (pss_cons (ps_for PassesOwn.never rfl (pi_tup (pe_glob (v := .ref aW) rfl mW rfl)) (pg_name (i := 5) scLaw.nd rfl (Or.inl rfl)) (pss_one (ps_if (PW.pt (pw_or (pt_cmpR (op_neO (oE _) hne hob hrE) (pe_cmeth (pe_glob (v := .ref CM) rfl mM rfl) cr cV GV hrO pass0 (pa_cons (pv 5) pa_nil)) (pe_makeKV (ks := ["other"]) MM GM hrM rfl mM pass0 (pk_cons (pv 5) pk_nil)) (nomark _)) (pw_or (pt_cmpR (op_neD hrD.units) (pe_prop (pe_cmeth (pe_glob (v := .ref CM) rfl mM rfl) cr cV GV hrO pass0 (pa_cons (pv 5) pa_nil)) cf.cl pK GK hrK bK .nil pass0 rfl) (pe_tup pa_nil) (nomark _)) (pw_or1 (pt_val (pe_callTy (call_boolO (oL _) nb hrB) (by rfl) T.bool (by decide +kernel) (pa_cons (pe_cmeth (pe_glob (v := .ref CM) rfl mM rfl) cr cV GV hrO pass0 (pa_cons (pv 5) pa_nil)) pa_nil))))))) (pss_one (ps_ret pe_bl)) pss_nil)))
      (pss_cons (ps_if (pt_cmpR (op_neO (oE _) hne hob hrE) (pe_makeKV (ks := ["report", "order"]) MM GM hrM rfl mM pass0 (pk_cons pe_str (pk_cons pe_str pk_nil))) (pe_cmeth (pe_glob (v := .ref CM) rfl mM rfl) cr cO GO hrO pass0 (pa_cons (pe_disp (pps_cons pe_str pe_str (pps_cons pe_str pe_str pps_nil)) (by rfl) (by rfl) (fun z => by cases z) (by decide)) pa_nil)) (nomark _)) (pss_one (ps_ret pe_bl)) pss_nil)
      (pss_cons (ps_set (i := 6) scLaw.nd rfl (Or.inl rfl) (pe_cmeth (pe_glob (v := .ref CM) rfl mM rfl) cr cO GO hrO pass0 (pa_cons (pe_disp (pps_cons pe_str pe_str (pps_cons pe_str pe_str (pps_cons pe_str pe_str (pps_cons pe_str pe_str (pps_cons pe_str pe_str pps_nil))))) (by rfl) (by rfl) (fun z => by cases z) (by decide)) pa_nil)))
      (pss_cons (ps_if (pt_cmpR op_ne (pe_callTy (call_strO (oST _) hrS) (by rfl) T.str (by decide +kernel) (pa_cons (pv 6) pa_nil)) pe_str (nomark _)) (pss_one (ps_ret pe_bl)) pss_nil)
      (pss_cons (ps_if (PW.pt (pw_or (pt_cmpR op_ne (pe_ixO (oG _) fG hrG (pe_meth (pv 6) cfT.cl mI GI hrI bI .nil pass0 (pa_cons pe_str (pa_cons pe_str pa_nil))) pe_str) pe_str (nomark _)) (pw_or1 (pt_cmpR op_ne (pe_ixO (oG _) fG hrG (pv 6) pe_str) pe_str (nomark _))))) (pss_one (ps_ret pe_bl)) pss_nil)
      (pss_one (ps_ret (pe_and (pe_cmpR (op_eqD hrD.units) (pe_glob (v := .ref aW) rfl mW rfl) (pe_tup (pa_cons pe_str (pa_cons pe_str (pa_cons pe_str pa_nil)))) (nomark _)) (pe_and (pe_cmpR op_eq (pe_callTy (call_strO (oS _) hrS) (by rfl) T.str (by decide +kernel) (pa_cons (pe_makeN MM GM hrM rfl mM pass0) pa_nil)) pe_str (nomark _)) (pe_one (pe_cmpR op_eq (pe_callB (call_lenO (oL _) hrL) (by rfl) T.len (by decide +kernel) (pa_cons (pe_makeN MM GM hrM rfl mM pass0) pa_nil)) pe_int (nomark _))))))))))))), ?_⟩
    have hsz : (1000 : Nat) ≤ sizeLine := by rw [sizeLine_eq]; decide
    refine ⟨_, rfl, a, _, rfl, .inl hL, _, _, rfl, _, _, rfl, _, rfl, ?_, ?_, for_range (fun i σ G => ∃ v1 v2 v3 v4 v5 v6 : Option V, σ = [some (.ref a), v1, v2, v3, v4, v5, v6] ∧ Same H G) ⟨none, none, none, none, none, none, rfl, Same.refl _⟩ ?_ ?_⟩
    · split <;> split <;> omega
    · rw [List.length_map]
      split <;> split <;> omega
    · rintro i σ G hi ⟨v1, v2, v3, v4, v5, v6, rfl, s0⟩
      refine ⟨_, rfl, _, rfl, a, ns, _, rfl, s0.seq hL, by omega, by omega, fun p x y G1 s1 hp D => ?_⟩
      refine ⟨_, rfl, _, rfl, p, x, y, 0, 5, rfl, D, by decide, by decide, fun r x1 z1 G2 r0 r1 D2 hz s2 => ?_⟩
      obtain ⟨rn, rfl⟩ : ∃ rn : Nat, r = (rn : Int) := ⟨r.toNat, by omega⟩
      refine ⟨_, _, rfl, rfl, p, x1, y, z1, 1 + rn, by show [V.ref p, V.int (1 + (rn : Int))] = [V.ref p, V.int ((1 + rn : Nat) : Int)]; rw [show ((1 : Int) + (rn : Int)) = ((1 + rn : Nat) : Int) by omega], D2, by omega, fun q ks x2 z2 G3 D3 s3 nq hq hl hk => ?_⟩
      have npq : p ≠ q := ne_of_none D2.at_ nq
      have P3 : ∀ b o, H b = some o → G3 b = some o := fun b o e => by
        have hb : b ≠ p := ne_of_none (s0 _ _ e) hp
        exact s3 b o hb (s2 b o hb (s1 _ _ (s0 _ _ e)))
      refine ⟨3, rfl, by decide, by decide, for_range (n := 3) (fun j σ G => ∃ (v4 : Option V) (x' z' : Int), σ = [some (.ref a), some (.int (0 + (i : Int))), some (.ref p), some (.ref q), v4, v5, v6] ∧ Dice G p x' y z' ∧ G q = some (.lst (ks.map V.str)) ∧ ∀ b o, H b = some o → G b = some o) ⟨v4, x2, z2, rfl, D3, hq, P3⟩ ?_ ?_⟩
      · rintro j σ G4 hj ⟨u4, x4, z4, rfl, D4, hq4, P4⟩
        refine ⟨_, rfl, _, rfl, p, q, x4, y, z4, ks, rfl, D4, hq4, hk, fun x5 z5 G5 D5 s5 => ⟨true, rfl, ?_⟩⟩
        refine ⟨_, x5, z5, rfl, D5, s5 q _ npq.symm hq4, fun b o e => ?_⟩
        exact s5 b o (ne_of_none (s0 _ _ e) hp) (P4 b o e)
      · rintro σ G4 ⟨u4, x4, z4, rfl, D4, hq4, P4⟩
        exact ⟨_, _, _, _, _, _, rfl, P4⟩
    · rintro σ G ⟨v1, v2, v3, v4, v5, v6, rfl, s0⟩
      have dTy : ∀ {G : Hp} {b dx : Addr} {fs : List (S × V)}, G b = some (.ins CM dx fs) → TyX K G (.ref b) (.ref CM) := fun h => .base (.ins h cf.cl is.ha is.hn is.htk is.hm)
      have f0 : ∀ {v : S}, v ∈ W3 → Fine [] v := fun hv => ⟨fun _ h => (by cases h), fun _ h => (by cases h), hv, by decide⟩
      refine ⟨aW, rfl, ⟨_, hW _⟩, for_tup (K := K) (a := aW) (xs := W3.map V.str) (fun i σ G => ∃ v1 v2 v3 v4 v5 v6 : Option V, σ = [some (.ref a), v1, v2, v3, v4, v5, v6]) ⟨_, _, _, _, _, _, rfl⟩ (fun _ _ _ _ _ => hW _) ?_ ?_⟩
      · rintro i v σ G hv ⟨v1, v2, v3, v4, v5, v6, rfl⟩
        obtain ⟨wv, hwv, rfl⟩ := str_at hv
        refine ⟨rfl, _, rfl, wv, rfl, hwv, fun G1 b1 us1 r1 s1 n1 m1 c1 => ⟨_, rfl, ?_⟩⟩
        obtain ⟨rfl, rfl⟩ := canon_one c1
        intro x0 dx0 nx0 nd0 nex0
        refine make_kw2 (ws := [(oth, r1)]) ⟨fun k hk => by rw [List.mem_singleton.mp hk]; exact nm_oth, fun x hx => by rw [List.mem_singleton.mp hx]; exact hwv, by simp, by simp⟩ (by simp) (by intro z; exact absurd (List.mem_singleton.mp z) (show ¬ slf = oth by decide +kernel)) nx0 nd0 nex0 fun G2 us2 r2 s2 n2 m2 c2 => ⟨rfl, ?_⟩
        obtain ⟨rfl, rfl⟩ := canon_one c2
        obtain ⟨dx1, dm1, h1, hm1⟩ := (m1.same s2).ex
        obtain ⟨dx2, dm2, h2, hm2⟩ := m2.ex
        refine ⟨b1, dx1, _, .ref CM, rfl, h1, dTy h2, nf, b1, [], _, _, rfl, ⟨dx1, dm1, h1, hm1⟩, f0 hwv, .inl ⟨x0, [], _, rfl, ⟨dx2, dm2, h2, hm2⟩, f0 hwv, fun G3 s3 => ⟨_, rfl, _, rfl, ?_⟩⟩⟩
        rw [eqW_refl]
        refine ⟨rfl, _, rfl, _, rfl, hwv, fun G4 b4 us4 r4 s4 n4 m4 c4 => ?_⟩
        obtain ⟨rfl, rfl⟩ := canon_one c4
        obtain ⟨dx4, dm4, h4, hm4⟩ := m4.ex
        refine ⟨b4, dx4, _, rfl, h4, b4, [], _, rfl, ⟨dx4, dm4, h4, hm4⟩, fun qk hqk => ⟨Nat.zero_le _, fun t ht => ?_⟩⟩
        refine ⟨.tuple [], .tuple [], .tup (SqT.of (same_upd ht _ _ upd_same)) .nil, .tup (SqT.of upd_same) .nil, by decide +kernel, by decide +kernel, _, rfl, ?_⟩
        rw [show PyData.eqv (.tuple []) (.tuple []) = true by decide +kernel]
        refine ⟨rfl, _, rfl, _, rfl, hwv, fun G5 b5 us5 r5 s5 n5 m5 c5 => ?_⟩
        obtain ⟨rfl, rfl⟩ := canon_one c5
        obtain ⟨dx5, dm5, h5, hm5⟩ := m5.ex
        exact ⟨b5, dx5, _, rfl, h5, b5, [], _, rfl, ⟨dx5, dm5, h5, .inl hm5⟩, _, rfl, by decide, by decide, false, rfl, _, _, _, _, _, _, rfl⟩
      · rintro σ G ⟨v1, v2, v3, v4, v5, v6, rfl⟩
        intro x0 dx0 nx0 nd0 nex0
        refine make_kw2 (ws := [("report", w2), ("order", w1)]) wok_two (by decide) (by decide +kernel) nx0 nd0 nex0 fun G1 us1 r1 s1 n1 m1 c1 => ⟨rfl, ?_⟩
        refine ⟨rfl, fun p hp => ⟨upd_same, wd [("order", w1), ("report", w2)], rfl, (by rw [wd_len]; decide), ?_⟩⟩
        rw [merge_nil (by decide +kernel), upd_upd]
        refine ⟨p, [("order", w1), ("report", w2)], rfl, upd_same, wok_rev (pl := [("report", w2), ("order", w1)]) wok_two, by decide, fun G2 b2 us2 r2 s2 n2 m2 c2 => ?_⟩
        rw [cls_cm (by decide +kernel)] at m2
        have c2' : Canon [("report", w2), ("order", w1)] us2 r2 := canon_rev (by decide +kernel) c2
        obtain ⟨e1, e2⟩ := canon_eq c2' c1 rfl fun _ => rfl
        subst e1
        subst e2
        have kp := canon_kept wok_two c1
        obtain ⟨dx1, dm1, h1, hm1⟩ := ((m1.same (same_upd hp)).same s2).ex
        obtain ⟨dx2, dm2, h2, hm2⟩ := m2.ex
        refine ⟨x0, dx1, _, .ref CM, rfl, h1, dTy h2, nf, x0, _, _, _, rfl, ⟨dx1, dm1, h1, hm1⟩, kp.fine, .inl ⟨b2, _, _, rfl, ⟨dx2, dm2, h2, hm2⟩, kp.fine, fun G3 s3 => ⟨_, rfl, _, rfl, ?_⟩⟩⟩
        rw [eqW_refl]
        refine ⟨rfl, fun p5 hp5 => ⟨upd_same, wd W5, rfl, (by rw [wd_len]; decide), ?_⟩⟩
        rw [merge_nil wok_five.nd, upd_upd]
        refine ⟨p5, W5, rfl, upd_same, wok_five, by decide, fun G5 b5 us5 r5 s5 n5 m5 c5 => ?_⟩
        have ec : clsOf CM CT W5 = CT := by
          unfold clsOf
          rw [if_pos (by decide +kernel)]
        rw [ec] at m5
        obtain ⟨rfl, rfl⟩ := canon_five c5
        have k5 := canon_kept wok_five c5
        obtain ⟨dx5, dm5, h5, hm5⟩ := m5.ex
        refine ⟨_, rfl, b5, dx5, _, rfl, h5, b5, _, _, rfl, ⟨dx5, dm5, h5, hm5⟩, k5.fine, fun G6 s6 => ⟨_, rfl, rfl, _, rfl, ?_⟩⟩
        have et : txt U5 w0 = "cls notes, self notes, words numbers, other nothing" := by decide +kernel
        rw [et, decide_eq_true rfl]
        have h6 := s6 _ _ h5
        have hm6 := s6 _ _ hm5
        refine ⟨_, rfl, b5, dx5, _, rfl, h6, no_lk (by decide +kernel) (by decide +kernel), b5, U5, w0, slf, w0, rfl, ⟨dx5, dm5, h6, hm6⟩, k5.fine, k5.nd, k5.no, by decide, by decide +kernel, by decide +kernel, fun G7 b7 us7 r7 s7 n7 m7 c7 => ?_⟩
        have ec7 : clsOf CM CT (putS (U5 ++ [(oth, w0)]) slf w0) = CT := by
          unfold clsOf
          rw [if_pos (by decide +kernel)]
        rw [ec7] at m7
        obtain ⟨dx7, dm7, h7, hm7⟩ := m7.ex
        refine ⟨b7, dx7, _, rfl, h7, b7, us7, r7, slf, rfl, ⟨dx7, dm7, h7, hm7⟩, by decide +kernel, ?_⟩
        have e7 : gw us7 r7 slf = w0 := by
          rw [canon_gw c7]
          decide +kernel
        rw [e7]
        refine ⟨rfl, _, rfl, ?_⟩
        rw [show decide (V.str w0 = V.str "nothing") = true from decide_eq_true rfl]
        have h67 := s7 _ _ h6
        have hm67 := s7 _ _ hm6
        refine ⟨_, rfl, b5, dx5, _, rfl, h67, b5, U5, w0, "cls", rfl, ⟨dx5, dm5, h67, hm67⟩, by decide +kernel, ?_⟩
        rw [show gw U5 w0 "cls" = ("notes" : S) by decide +kernel]
        refine ⟨rfl, _, rfl, ?_⟩
        rw [show decide (V.str "notes" = V.str "notes") = true from decide_eq_true rfl]
        refine ⟨by show 3 ≤ sizeLine; omega, fun t3 ht3 => ?_⟩
        have sh : SeqAt.shaped (.tuple (W3.map .str)) = true := by decide +kernel
        refine ⟨.tuple (W3.map .str), .tuple (W3.map .str), .tup (hW _) (dp_strs _), .tup (SqT.of upd_same) (dp_strs W3), sh, sh, ?_⟩
        rw [SeqAt.eqv_refl _ (SeqAt.canLay_of_shaped sh)]
        refine ⟨_, rfl, ?_⟩
        have wn : Wok [] := ⟨fun _ h => (by cases h), fun _ h => (by cases h), .nil, by decide⟩
        intro x8 dx8 nx8 nd8 nex8
        refine make_kw2 (ws := []) wn (by decide) (by decide +kernel) nx8 nd8 nex8 fun G8 us8 r8 s8 n8 m8 c8 => ⟨rfl, ?_⟩
        obtain ⟨rfl, rfl⟩ := canon_nil c8
        obtain ⟨dxa, dma, ha8, hma⟩ := m8.ex
        refine ⟨x8, dxa, _, rfl, ha8, x8, [], w0, rfl, ⟨dxa, dma, ha8, hma⟩, f0 (by decide +kernel), fun G9 s9 => ⟨_, rfl, rfl, ?_⟩⟩
        rw [show txt [] w0 = "other nothing" by decide +kernel, show decide (V.str "other nothing" = V.str "other nothing") = true from decide_eq_true rfl]
        refine ⟨_, rfl, ?_⟩
        intro x9 dx9 nx9 nd9 nex9
        refine make_kw2 (ws := []) wn (by decide) (by decide +kernel) nx9 nd9 nex9 fun Ga usa ra sa na ma ca => ⟨rfl, ?_⟩
        obtain ⟨rfl, rfl⟩ := canon_nil ca
        obtain ⟨dxb, dmb, hb9, hmb⟩ := ma.ex
        refine ⟨x9, dxb, _, rfl, hb9, x9, [], w0, rfl, ⟨dxb, dmb, hb9, .inl hmb⟩, _, rfl, by decide, by decide, rfl, ?_⟩
        exact fin _
end
end M46
/-! What the top has written, and the law. -/
namespace M46
open PySem PySem.Spec PyProof.Rows L2 R0 K1 LiI ClX

theorem all_mk {l : PySem.W.OpenLaw} {w : World} {K : PySem.W.Frag} {h : Heap} {mg : PySem.Str → Option Value} {fa CM CT aW fIn Dk fN fC fK fL fD fU fP fNm fW fT fX fR fA fCh fTu fY fOf fEv fOt fKi fWo fWi fAm fGi fLe fIt fEq fSt fTk pOf pEv pOt pKi : Addr} (X : K.In h) (G : h.Ns mainGlobals mg) (hfa : mg "law" = some (.ref fa))
    {odIn anIn odN odC odK odL odD odU odP odNm odW odT odX odR odA odCh odTu odY odOf odEv odOt odKi odWo odWi odAm odGi odLe odIt odEq odSt odTk anN anC anK anL anD anU anP anNm anW anT anX anR anA anCh anTu anY anOf anEv anOt anKi anWo anWi anAm anGi anLe anIt anEq anSt anTk : Option Addr} {slW slIn slN slC slK slL slD slU slP slNm slW slT slX slR slA slCh slTu slY slOf slEv slOt slKi slWo slWi slAm slGi slLe slIt slEq slSt slTk : Array (Option Value)} {tk0 tw0 tw1 tw2 tkd : Tok} {nW : Nat} {rsOf rsEv rsOt rsKi : List Value}
    {mc ocIn dcIn pmIn cdIn ctIn ocN ocC ocK ocL ocD ocU ocP ocNm ocW ocT ocX ocR ocA ocCh ocTu ocY ocOf ocEv ocOt ocKi ocWo ocWi ocAm ocGi ocLe ocIt ocEq ocSt ocTk kVN kVC kVK kVL kVD kVU kVP kVNm kVW kVT kVX kVR kVA kVCh kVTu kVY kVOf kVEv kVOt kVKi kVWo kVWi kVAm kVGi kVLe kVIt kVEq kVSt kVTk dcN dcC dcK dcL dcD dcU dcP dcNm dcW dcT dcX dcR dcA dcCh dcTu dcY dcOf dcEv dcOt dcKi dcWo dcWi dcAm dcGi dcLe dcIt dcEq dcSt dcTk pmN pmC pmK pmL pmD pmU pmP pmNm pmW pmT pmX pmR pmA pmCh pmTu pmY pmOf pmEv pmOt pmKi pmWo pmWi pmAm pmGi pmLe pmIt pmEq pmSt pmTk cdN cdC cdK cdL cdD cdU cdP cdNm cdW cdT cdX cdR cdA cdCh cdTu cdY cdOf cdEv cdOt cdKi cdWo cdWi cdAm cdGi cdLe cdIt cdEq cdSt cdTk ctN ctC ctK ctL ctD ctU ctP ctNm ctW ctT ctX ctR ctA ctCh ctTu ctY ctOf ctEv ctOt ctKi ctWo ctWi ctAm ctGi ctLe ctIt ctEq ctSt ctTk : Value}
    (aCM : PySem.W.nsIn K mainGlobals "Marking" = some (some (.ref CM)))
    (aCT : PySem.W.nsIn K mainGlobals "TakenMarking" = some (some (.ref CT)))
    (aLN : PySem.W.nsIn K mainGlobals "LONGEST_NAME" = some (some (.int 8 tk0)))
    (aWS : PySem.W.nsIn K mainGlobals "WORDS" = some (some (.ref aW)))
    (lkW : K.lookup aW = some ⟨.type "tuple", none, .seq #[.str "nothing" tw0, .str "numbers" tw1, .str "notes" tw2] nW, slW⟩)
    (zint : PySem.W.nsIn K mainGlobals "int" = some none)
    (zabs : PySem.W.nsIn K mainGlobals "abs" = some none)
    (zmax : PySem.W.nsIn K mainGlobals "max" = some none)
    (zmin : PySem.W.nsIn K mainGlobals "min" = some none)
    (zlen : PySem.W.nsIn K mainGlobals "len" = some none)
    (zrng : PySem.W.nsIn K mainGlobals "range" = some none)
    (zisi : PySem.W.nsIn K mainGlobals "isinstance" = some none)
    (zstr : PySem.W.nsIn K mainGlobals "str" = some none)
    (ztup : PySem.W.nsIn K mainGlobals "tuple" = some none)
    (zbool : PySem.W.nsIn K mainGlobals "bool" = some none)
    (zall : PySem.W.nsIn K mainGlobals "all" = some none)
    (zany : PySem.W.nsIn K mainGlobals "any" = some none)
    (zdict : PySem.W.nsIn K mainGlobals "dict" = some none)
    (zlist : PySem.W.nsIn K mainGlobals "list" = some none)
    (zsort : PySem.W.nsIn K mainGlobals "sorted" = some none)
    (ziter : PySem.W.nsIn K mainGlobals "iter" = some none)
    (gN : PySem.W.nsIn K mainGlobals "is_name" = some (some (.ref fN)))
    (lN : K.lookup fN = some ⟨ocN, odN, .func (PySem.W.fnOf "is_name" "is_name" (defArgs sIsName) (defBody sIsName) (defScope sIsName) .none kVN dcN pmN anN cdN ctN), slN⟩)
    (cN : PySem.W.codeIn K cdN "is_name" = true)
    (kN : PySem.W.keepIn K (.ref fN) = true)
    (gC : PySem.W.nsIn K mainGlobals "_check_words" = some (some (.ref fC)))
    (lC : K.lookup fC = some ⟨ocC, odC, .func (PySem.W.fnOf "_check_words" "_check_words" (defArgs sCheck) (defBody sCheck) (defScope sCheck) .none kVC dcC pmC anC cdC ctC), slC⟩)
    (cC : PySem.W.codeIn K cdC "_check_words" = true)
    (kC : PySem.W.keepIn K (.ref fC) = true)
    (gK : PySem.W.nsIn K mainGlobals "_kept_words" = some (some (.ref fK)))
    (lK : K.lookup fK = some ⟨ocK, odK, .func (PySem.W.fnOf "_kept_words" "_kept_words" (defArgs sKept) (defBody sKept) (defScope sKept) .none kVK dcK pmK anK cdK ctK), slK⟩)
    (cK : PySem.W.codeIn K cdK "_kept_words" = true)
    (kK : PySem.W.keepIn K (.ref fK) = true)
    (gL : PySem.W.nsIn K mainGlobals "is_less" = some (some (.ref fL)))
    (lL : K.lookup fL = some ⟨ocL, odL, .func (PySem.W.fnOf "is_less" "is_less" (defArgs sLess) (defBody sLess) (defScope sLess) .none kVL dcL pmL anL cdL ctL), slL⟩)
    (cL : PySem.W.codeIn K cdL "is_less" = true)
    (kL : PySem.W.keepIn K (.ref fL) = true)
    (gD : PySem.W.nsIn K mainGlobals "_law_dice" = some (some (.ref fD)))
    (lD : K.lookup fD = some ⟨ocD, odD, .func (PySem.W.fnOf "_law_dice" "_law_dice" (defArgs sDice) (defBody sDice) (defScope sDice) .none kVD dcD pmD anD cdD ctD), slD⟩)
    (cD : PySem.W.codeIn K cdD "_law_dice" = true)
    (kD : PySem.W.keepIn K (.ref fD) = true)
    (gU : PySem.W.nsIn K mainGlobals "_law_pull" = some (some (.ref fU)))
    (lU : K.lookup fU = some ⟨ocU, odU, .func (PySem.W.fnOf "_law_pull" "_law_pull" (defArgs sPull) (defBody sPull) (defScope sPull) .none kVU dcU pmU anU cdU ctU), slU⟩)
    (cU : PySem.W.codeIn K cdU "_law_pull" = true)
    (kU : PySem.W.keepIn K (.ref fU) = true)
    (gP : PySem.W.nsIn K mainGlobals "_law_pick" = some (some (.ref fP)))
    (lP : K.lookup fP = some ⟨ocP, odP, .func (PySem.W.fnOf "_law_pick" "_law_pick" (defArgs sPick) (defBody sPick) (defScope sPick) .none kVP dcP pmP anP cdP ctP), slP⟩)
    (cP : PySem.W.codeIn K cdP "_law_pick" = true)
    (kP : PySem.W.keepIn K (.ref fP) = true)
    (gNm : PySem.W.nsIn K mainGlobals "_law_names" = some (some (.ref fNm)))
    (lNm : K.lookup fNm = some ⟨ocNm, odNm, .func (PySem.W.fnOf "_law_names" "_law_names" (defArgs sNames) (defBody sNames) (defScope sNames) .none kVNm dcNm pmNm anNm cdNm ctNm), slNm⟩)
    (cNm : PySem.W.codeIn K cdNm "_law_names" = true)
    (kNm : PySem.W.keepIn K (.ref fNm) = true)
    (gW : PySem.W.nsIn K mainGlobals "_law_words" = some (some (.ref fW)))
    (lW : K.lookup fW = some ⟨ocW, odW, .func (PySem.W.fnOf "_law_words" "_law_words" (defArgs sWords) (defBody sWords) (defScope sWords) .none kVW dcW pmW anW cdW ctW), slW⟩)
    (cW : PySem.W.codeIn K cdW "_law_words" = true)
    (kW : PySem.W.keepIn K (.ref fW) = true)
    (gT : PySem.W.nsIn K mainGlobals "_law_told" = some (some (.ref fT)))
    (lT : K.lookup fT = some ⟨ocT, odT, .func (PySem.W.fnOf "_law_told" "_law_told" (defArgs sTold) (defBody sTold) (defScope sTold) .none kVT dcT pmT anT cdT ctT), slT⟩)
    (cT : PySem.W.codeIn K cdT "_law_told" = true)
    (kT : PySem.W.keepIn K (.ref fT) = true)
    (gX : PySem.W.nsIn K mainGlobals "_law_text" = some (some (.ref fX)))
    (lX : K.lookup fX = some ⟨ocX, odX, .func (PySem.W.fnOf "_law_text" "_law_text" (defArgs sText) (defBody sText) (defScope sText) .none kVX dcX pmX anX cdX ctX), slX⟩)
    (cX : PySem.W.codeIn K cdX "_law_text" = true)
    (kX : PySem.W.keepIn K (.ref fX) = true)
    (gR : PySem.W.nsIn K mainGlobals "_law_right" = some (some (.ref fR)))
    (lR : K.lookup fR = some ⟨ocR, odR, .func (PySem.W.fnOf "_law_right" "_law_right" (defArgs sRight) (defBody sRight) (defScope sRight) .none kVR dcR pmR anR cdR ctR), slR⟩)
    (cR : PySem.W.codeIn K cdR "_law_right" = true)
    (kR : PySem.W.keepIn K (.ref fR) = true)
    (gA : PySem.W.nsIn K mainGlobals "_law_all_words" = some (some (.ref fA)))
    (lA : K.lookup fA = some ⟨ocA, odA, .func (PySem.W.fnOf "_law_all_words" "_law_all_words" (defArgs sAll) (defBody sAll) (defScope sAll) .none kVA dcA pmA anA cdA ctA), slA⟩)
    (cA : PySem.W.codeIn K cdA "_law_all_words" = true)
    (kA : PySem.W.keepIn K (.ref fA) = true)
    (gCh : PySem.W.nsIn K mainGlobals "_law_changed" = some (some (.ref fCh)))
    (lCh : K.lookup fCh = some ⟨ocCh, odCh, .func (PySem.W.fnOf "_law_changed" "_law_changed" (defArgs sChanged) (defBody sChanged) (defScope sChanged) .none kVCh dcCh pmCh anCh cdCh ctCh), slCh⟩)
    (cCh : PySem.W.codeIn K cdCh "_law_changed" = true)
    (kCh : PySem.W.keepIn K (.ref fCh) = true)
    (gTu : PySem.W.nsIn K mainGlobals "_law_turn" = some (some (.ref fTu)))
    (lTu : K.lookup fTu = some ⟨ocTu, odTu, .func (PySem.W.fnOf "_law_turn" "_law_turn" (defArgs sTurn) (defBody sTurn) (defScope sTurn) .none kVTu dcTu pmTu anTu cdTu ctTu), slTu⟩)
    (cTu : PySem.W.codeIn K cdTu "_law_turn" = true)
    (kTu : PySem.W.keepIn K (.ref fTu) = true)
    (gY : PySem.W.nsIn K mainGlobals "law" = some (some (.ref fY)))
    (lY : K.lookup fY = some ⟨ocY, odY, .func (PySem.W.fnOf "law" "law" (defArgs sLaw) (defBody sLaw) (defScope sLaw) .none kVY dcY pmY anY cdY ctY), slY⟩)
    (cY : PySem.W.codeIn K cdY "law" = true)
    (kY : PySem.W.keepIn K (.ref fY) = true)
    (pgCM : PySem.W.plainGet K CM Str.empty = true)
    (hdCM : PySem.W.hasDictIn K CM = true)
    (poCM : PySem.W.plainOver K CM = true)
    (saCM : PySem.W.findIn K (.ref CM) "__setattr__" = some (some (.builtin "object.__setattr__")))
    (nWCM : PySem.W.findIn K (.ref CM) "_words" = some none)
    (nRCM : PySem.W.findIn K (.ref CM) "_rest" = some none)
    (mkCM : PySem.W.makesIn K CM = true)
    (kcCM : PySem.W.keepIn K (.ref CM) = true)
    (pgCT : PySem.W.plainGet K CT Str.empty = true)
    (hdCT : PySem.W.hasDictIn K CT = true)
    (poCT : PySem.W.plainOver K CT = true)
    (saCT : PySem.W.findIn K (.ref CT) "__setattr__" = some (some (.builtin "object.__setattr__")))
    (nWCT : PySem.W.findIn K (.ref CT) "_words" = some none)
    (nRCT : PySem.W.findIn K (.ref CT) "_rest" = some none)
    (mkCT : PySem.W.makesIn K CT = true)
    (kcCT : PySem.W.keepIn K (.ref CT) = true)
    (aIn : PySem.W.findIn K (.ref CM) "__init__" = some (some (.ref fIn)))
    (iIn : PySem.W.isFn K (.ref fIn) = true)
    (lIn : K.lookup fIn = some ⟨ocIn, odIn, .func (PySem.W.fnOf "__init__" "Marking.__init__" (defArgs sInit) (defBody sInit) (defScope sInit) .none (.ref Dk) dcIn pmIn anIn cdIn ctIn), slIn⟩)
    (cIn : PySem.W.codeIn K cdIn "Marking.__init__" = true)
    (kIn : PySem.W.keepIn K (.ref fIn) = true)
    (dk : PySem.W.nsIn K Dk "other" = some (some (.str "nothing" tkd)))
    (rdC : PySem.W.readsIn K CM mc = true)
    (gaC : PySem.W.specialIn K (.ref CM) "__getattribute__" = some (some (.builtin "type.__getattribute__")))
    (eOf : PySem.W.findIn K (.ref CM) "of" = some (some (.ref pOf)))
    (aOf : PySem.W.findCls K (.ref CM) mc "of" = some (.get (.builtin "classmethod.__get__") (.ref pOf) .none (.ref CM)))
    (rOf : PySem.W.recIn K pOf "classmethod" = some (.ref fOf :: rsOf))
    (iOf : PySem.W.fnIn K fOf = true)
    (lOf : K.lookup fOf = some ⟨ocOf, odOf, .func (PySem.W.fnOf "of" "Marking.of" (defArgs sOf) (defBody sOf) (defScope sOf) .none kVOf dcOf pmOf anOf cdOf ctOf), slOf⟩)
    (cOf : PySem.W.codeIn K cdOf "Marking.of" = true)
    (kOf : PySem.W.keepIn K (.ref fOf) = true)
    (eEv : PySem.W.findIn K (.ref CM) "even" = some (some (.ref pEv)))
    (aEv : PySem.W.findCls K (.ref CM) mc "even" = some (.get (.builtin "classmethod.__get__") (.ref pEv) .none (.ref CM)))
    (rEv : PySem.W.recIn K pEv "classmethod" = some (.ref fEv :: rsEv))
    (iEv : PySem.W.fnIn K fEv = true)
    (lEv : K.lookup fEv = some ⟨ocEv, odEv, .func (PySem.W.fnOf "even" "Marking.even" (defArgs sEven) (defBody sEven) (defScope sEven) .none kVEv dcEv pmEv anEv cdEv ctEv), slEv⟩)
    (cEv : PySem.W.codeIn K cdEv "Marking.even" = true)
    (kEv : PySem.W.keepIn K (.ref fEv) = true)
    (aOt : PySem.W.findIn K (.ref CM) "other" = some (some (.ref pOt)))
    (sOt : PySem.W.specialIn K (.ref pOt) "__get__" = some (some (.builtin "property.__get__")))
    (tOt : PySem.W.takesIn K (.ref pOt) = some true)
    (rOt : PySem.W.recIn K pOt "property" = some (.ref fOt :: rsOt))
    (lOt : K.lookup fOt = some ⟨ocOt, odOt, .func (PySem.W.fnOf "other" "Marking.other" (defArgs sOther) (defBody sOther) (defScope sOther) .none kVOt dcOt pmOt anOt cdOt ctOt), slOt⟩)
    (cOt : PySem.W.codeIn K cdOt "Marking.other" = true)
    (kOt : PySem.W.keepIn K (.ref fOt) = true)
    (aKi : PySem.W.findIn K (.ref CM) "kinds" = some (some (.ref pKi)))
    (sKi : PySem.W.specialIn K (.ref pKi) "__get__" = some (some (.builtin "property.__get__")))
    (tKi : PySem.W.takesIn K (.ref pKi) = some true)
    (rKi : PySem.W.recIn K pKi "property" = some (.ref fKi :: rsKi))
    (lKi : K.lookup fKi = some ⟨ocKi, odKi, .func (PySem.W.fnOf "kinds" "Marking.kinds" (defArgs sKinds) (defBody sKinds) (defScope sKinds) .none kVKi dcKi pmKi anKi cdKi ctKi), slKi⟩)
    (cKi : PySem.W.codeIn K cdKi "Marking.kinds" = true)
    (kKi : PySem.W.keepIn K (.ref fKi) = true)
    (aWo : PySem.W.findIn K (.ref CM) "word_of" = some (some (.ref fWo)))
    (iWo : PySem.W.isFn K (.ref fWo) = true)
    (lWo : K.lookup fWo = some ⟨ocWo, odWo, .func (PySem.W.fnOf "word_of" "Marking.word_of" (defArgs sWordOf) (defBody sWordOf) (defScope sWordOf) .none kVWo dcWo pmWo anWo cdWo ctWo), slWo⟩)
    (cWo : PySem.W.codeIn K cdWo "Marking.word_of" = true)
    (kWo : PySem.W.keepIn K (.ref fWo) = true)
    (aWi : PySem.W.findIn K (.ref CM) "with_word" = some (some (.ref fWi)))
    (iWi : PySem.W.isFn K (.ref fWi) = true)
    (lWi : K.lookup fWi = some ⟨ocWi, odWi, .func (PySem.W.fnOf "with_word" "Marking.with_word" (defArgs sWith) (defBody sWith) (defScope sWith) .none kVWi dcWi pmWi anWi cdWi ctWi), slWi⟩)
    (cWi : PySem.W.codeIn K cdWi "Marking.with_word" = true)
    (kWi : PySem.W.keepIn K (.ref fWi) = true)
    (aAm : PySem.W.findIn K (.ref CM) "is_at_most" = some (some (.ref fAm)))
    (iAm : PySem.W.isFn K (.ref fAm) = true)
    (lAm : K.lookup fAm = some ⟨ocAm, odAm, .func (PySem.W.fnOf "is_at_most" "Marking.is_at_most" (defArgs sAtMost) (defBody sAtMost) (defScope sAtMost) .none kVAm dcAm pmAm anAm cdAm ctAm), slAm⟩)
    (cAm : PySem.W.codeIn K cdAm "Marking.is_at_most" = true)
    (kAm : PySem.W.keepIn K (.ref fAm) = true)
    (aGi : PySem.W.findIn K (.ref CM) "__getitem__" = some (some (.ref fGi)))
    (iGi : PySem.W.isFn K (.ref fGi) = true)
    (lGi : K.lookup fGi = some ⟨ocGi, odGi, .func (PySem.W.fnOf "__getitem__" "Marking.__getitem__" (defArgs sGet) (defBody sGet) (defScope sGet) .none kVGi dcGi pmGi anGi cdGi ctGi), slGi⟩)
    (cGi : PySem.W.codeIn K cdGi "Marking.__getitem__" = true)
    (kGi : PySem.W.keepIn K (.ref fGi) = true)
    (aLe : PySem.W.findIn K (.ref CM) "__len__" = some (some (.ref fLe)))
    (iLe : PySem.W.isFn K (.ref fLe) = true)
    (lLe : K.lookup fLe = some ⟨ocLe, odLe, .func (PySem.W.fnOf "__len__" "Marking.__len__" (defArgs sLen) (defBody sLen) (defScope sLen) .none kVLe dcLe pmLe anLe cdLe ctLe), slLe⟩)
    (cLe : PySem.W.codeIn K cdLe "Marking.__len__" = true)
    (kLe : PySem.W.keepIn K (.ref fLe) = true)
    (aIt : PySem.W.findIn K (.ref CM) "__iter__" = some (some (.ref fIt)))
    (iIt : PySem.W.isFn K (.ref fIt) = true)
    (lIt : K.lookup fIt = some ⟨ocIt, odIt, .func (PySem.W.fnOf "__iter__" "Marking.__iter__" (defArgs sIter) (defBody sIter) (defScope sIter) .none kVIt dcIt pmIt anIt cdIt ctIt), slIt⟩)
    (cIt : PySem.W.codeIn K cdIt "Marking.__iter__" = true)
    (kIt : PySem.W.keepIn K (.ref fIt) = true)
    (aEq : PySem.W.findIn K (.ref CM) "__eq__" = some (some (.ref fEq)))
    (iEq : PySem.W.isFn K (.ref fEq) = true)
    (lEq : K.lookup fEq = some ⟨ocEq, odEq, .func (PySem.W.fnOf "__eq__" "Marking.__eq__" (defArgs sEq) (defBody sEq) (defScope sEq) .none kVEq dcEq pmEq anEq cdEq ctEq), slEq⟩)
    (cEq : PySem.W.codeIn K cdEq "Marking.__eq__" = true)
    (kEq : PySem.W.keepIn K (.ref fEq) = true)
    (aSt : PySem.W.findIn K (.ref CM) "__str__" = some (some (.ref fSt)))
    (iSt : PySem.W.isFn K (.ref fSt) = true)
    (lSt : K.lookup fSt = some ⟨ocSt, odSt, .func (PySem.W.fnOf "__str__" "Marking.__str__" (defArgs sStr) (defBody sStr) (defScope sStr) .none kVSt dcSt pmSt anSt cdSt ctSt), slSt⟩)
    (cSt : PySem.W.codeIn K cdSt "Marking.__str__" = true)
    (kSt : PySem.W.keepIn K (.ref fSt) = true)
    (aTk : PySem.W.findIn K (.ref CT) "__init__" = some (some (.ref fTk)))
    (iTk : PySem.W.isFn K (.ref fTk) = true)
    (lTk : K.lookup fTk = some ⟨ocTk, odTk, .func (PySem.W.fnOf "__init__" "TakenMarking.__init__" (defArgs sTaken) (defBody sTaken) (defScope sTaken) .none kVTk dcTk pmTk anTk cdTk ctTk), slTk⟩)
    (cTk : PySem.W.codeIn K cdTk "TakenMarking.__init__" = true)
    (kTk : PySem.W.keepIn K (.ref fTk) = true)
    (bWo : PySem.W.findIn K (.ref CT) "word_of" = some (some (.ref fWo)))
    (bWi : PySem.W.findIn K (.ref CT) "with_word" = some (some (.ref fWi)))
    (bGi : PySem.W.findIn K (.ref CT) "__getitem__" = some (some (.ref fGi)))
    (bSt : PySem.W.findIn K (.ref CT) "__str__" = some (some (.ref fSt)))
    (nGi : PySem.W.fnIn K fGi = true)
    (nLe : PySem.W.fnIn K fLe = true)
    (nIt : PySem.W.fnIn K fIt = true)
    (nEq : PySem.W.fnIn K fEq = true)
    (nSt : PySem.W.fnIn K fSt = true)
    (isa : PySem.W.findIn K (.ref CM) "__class__" = some (some (.builtin "object.__class__")))
    (isn : PySem.W.specialIn K (.builtin "object.__class__") "__get__" = some (some (.builtin "getset_descriptor.__get__")))
    (ist : PySem.W.takesIn K (.builtin "object.__class__") = some true)
    (ism : PySem.W.mroIn K CM (.type "object") = some true)
    (iso : PySem.W.kitOne K (.ref CM) (.ref CM) = some true)
    (nfc : PySem.W.notFirst K CM (.ref CM) = true)
    (hne : PySem.W.findIn K (.ref CM) "__ne__" = some (some (.builtin "object.__ne__")))
    (hob : PySem.W.subIn K (.ref CM) (.type "object") = some true)
    (hnb : PySem.W.findIn K (.ref CM) "__bool__" = some none)
    (ostr : PySem.W.subIn K (.ref CM) (.type "str") = some false)
    (qstr : PySem.W.kitOne K (.type "str") (.ref CM) = some false)
    (oint : PySem.W.subIn K (.ref CM) (.type "int") = some false)
    (qint : PySem.W.kitOne K (.type "int") (.ref CM) = some false)
    (onon : PySem.W.subIn K (.ref CM) (.type "NoneType") = some false)
    (qnon : PySem.W.kitOne K (.type "NoneType") (.ref CM) = some false)
    (otup : PySem.W.subIn K (.ref CM) (.type "tuple") = some false)
    (qtup : PySem.W.kitOne K (.type "tuple") (.ref CM) = some false)
    (odict : PySem.W.subIn K (.ref CM) (.type "dict") = some false)
    (qdict : PySem.W.kitOne K (.type "dict") (.ref CM) = some false) :
    ∃ fd : FuncData, (∀ (s : Shared) (v : Value), BindsTo s fd ⟨[v], []⟩ [("_law_script", v)]) ∧ ∀ base : Heap, K.In base → base.Ns mainGlobals mg → FnOk l.prog w K mg base CX0 11 fa fd ["_law_script"] (spLaw K) := by
  have e := hfa.symm.trans (PySem.W.mg_of X G gY)
  cases e
  have T : Bare mg := ⟨PySem.W.mg_none_of X G zint, PySem.W.mg_none_of X G zabs, PySem.W.mg_none_of X G zmax, PySem.W.mg_none_of X G zmin, PySem.W.mg_none_of X G zlen, PySem.W.mg_none_of X G zrng, PySem.W.mg_none_of X G zisi, PySem.W.mg_none_of X G zstr, PySem.W.mg_none_of X G ztup, PySem.W.mg_none_of X G zbool, PySem.W.mg_none_of X G zall, PySem.W.mg_none_of X G zany, PySem.W.mg_none_of X G zdict, PySem.W.mg_none_of X G zlist, PySem.W.mg_none_of X G zsort, PySem.W.mg_none_of X G ziter⟩
  have cst : Cst K mg := ⟨⟨_, PySem.W.mg_of X G aLN⟩, aW, PySem.W.mg_of X G aWS, ⟨_, lkW, rfl, rfl⟩, fun H => .inr ⟨_, _, _, lkW, rfl, rfl, (by show 3 ≤ sizeLine; rw [sizeLine_eq]; decide), .cons ⟨_, rfl⟩ (.cons ⟨_, rfl⟩ (.cons ⟨_, rfl⟩ .nil))⟩⟩
  have cf : ClsF K CM := ⟨⟨pgCM, hdCM, poCM, saCM⟩, nWCM, nRCM⟩
  have cfT : ClsF K CT := ⟨⟨pgCT, hdCT, poCT, saCT⟩, nWCT, nRCT⟩
  have is : IsF K CM CM := ⟨isa, isn, ist, ism, iso⟩
  have ob : OffB K CM := ⟨ostr, oint, onon, otup, odict⟩
  have ko : KoF K CM := ⟨qstr, qint, qnon, qtup, qdict⟩
  have mM := PySem.W.mg_of X G aCM
  have mT' := PySem.W.mg_of X G aCT
  have cr : CRead K CM mc := ⟨rdC, gaC⟩
  have FN := fun_mk (st := sIsName) lN cN kN
  have bbN := FN.binds (ps := ["value"]) fun _ _ _ _ _ _ us hl => match us, hl with | [_], _ => rfl
  have mN := PySem.W.mg_of X G gN
  have FC := fun_mk (st := sCheck) lC cC kC
  have bbC := FC.binds (ps := ["words"]) fun _ _ _ _ _ _ us hl => match us, hl with | [_], _ => rfl
  have mC := PySem.W.mg_of X G gC
  have FK := fun_mk (st := sKept) lK cK kK
  have bbK := FK.binds (ps := ["words"]) fun _ _ _ _ _ _ us hl => match us, hl with | [_], _ => rfl
  have mK := PySem.W.mg_of X G gK
  have FL := fun_mk (st := sLess) lL cL kL
  have bbL := FL.binds (ps := ["word", "other"]) fun _ _ _ _ _ _ us hl => match us, hl with | [_, _], _ => rfl
  have mL := PySem.W.mg_of X G gL
  have FD := fun_mk (st := sDice) lD cD kD
  have bbD := FD.binds (ps := ["_law_script", "_law_at"]) fun _ _ _ _ _ _ us hl => match us, hl with | [_, _], _ => rfl
  have mD := PySem.W.mg_of X G gD
  have FU := fun_mk (st := sPull) lU cU kU
  have bbU := FU.binds (ps := ["_law_dice_here", "_law_total"]) fun _ _ _ _ _ _ us hl => match us, hl with | [_, _], _ => rfl
  have mU := PySem.W.mg_of X G gU
  have FP := fun_mk (st := sPick) lP cP kP
  have bbP := FP.binds (ps := ["_law_dice_here", "_law_items"]) fun _ _ _ _ _ _ us hl => match us, hl with | [_, _], _ => rfl
  have mP := PySem.W.mg_of X G gP
  have FNm := fun_mk (st := sNames) lNm cNm kNm
  have bbNm := FNm.binds (ps := ["_law_dice_here", "_law_total"]) fun _ _ _ _ _ _ us hl => match us, hl with | [_, _], _ => rfl
  have mNm := PySem.W.mg_of X G gNm
  have FW := fun_mk (st := sWords) lW cW kW
  have bbW := FW.binds (ps := ["_law_dice_here", "_law_kinds"]) fun _ _ _ _ _ _ us hl => match us, hl with | [_, _], _ => rfl
  have mW := PySem.W.mg_of X G gW
  have FT := fun_mk (st := sTold) lT cT kT
  have bbT := FT.binds (ps := ["_law_plan"]) fun _ _ _ _ _ _ us hl => match us, hl with | [_], _ => rfl
  have mT := PySem.W.mg_of X G gT
  have FX := fun_mk (st := sText) lX cX kX
  have bbX := FX.binds (ps := ["_law_plan"]) fun _ _ _ _ _ _ us hl => match us, hl with | [_], _ => rfl
  have mX := PySem.W.mg_of X G gX
  have FR := fun_mk (st := sRight) lR cR kR
  have bbR := FR.binds (ps := ["_law_marking", "_law_plan", "_law_kinds"]) fun _ _ _ _ _ _ us hl => match us, hl with | [_, _, _], _ => rfl
  have mR := PySem.W.mg_of X G gR
  have FA := fun_mk (st := sAll) lA cA kA
  have bbA := FA.binds (ps := ["_law_plan", "_law_kinds"]) fun _ _ _ _ _ _ us hl => match us, hl with | [_, _], _ => rfl
  have mA := PySem.W.mg_of X G gA
  have FCh := fun_mk (st := sChanged) lCh cCh kCh
  have bbCh := FCh.binds (ps := ["_law_plan", "_law_kinds", "_law_kind", "_law_word"]) fun _ _ _ _ _ _ us hl => match us, hl with | [_, _, _, _], _ => rfl
  have mCh := PySem.W.mg_of X G gCh
  have FTu := fun_mk (st := sTurn) lTu cTu kTu
  have bbTu := FTu.binds (ps := ["_law_dice_here", "_law_kinds"]) fun _ _ _ _ _ _ us hl => match us, hl with | [_, _], _ => rfl
  have mTu := PySem.W.mg_of X G gTu
  have FY := fun_mk (st := sLaw) lY cY kY
  have mY := PySem.W.mg_of X G gY
  have FOf := fun_mk (st := sOf) lOf cOf kOf
  have bbOf := FOf.binds (ps := ["cls", "words"]) fun _ _ _ _ _ _ us hl => match us, hl with | [_, _], _ => rfl
  have FEv := fun_mk (st := sEven) lEv cEv kEv
  have bbEv := FEv.binds (ps := ["cls", "word"]) fun _ _ _ _ _ _ us hl => match us, hl with | [_, _], _ => rfl
  have FOt := fun_mk (st := sOther) lOt cOt kOt
  have bbOt := FOt.binds (ps := ["self"]) fun _ _ _ _ _ _ us hl => match us, hl with | [_], _ => rfl
  have FKi := fun_mk (st := sKinds) lKi cKi kKi
  have bbKi := FKi.binds (ps := ["self"]) fun _ _ _ _ _ _ us hl => match us, hl with | [_], _ => rfl
  have FWo := fun_mk (st := sWordOf) lWo cWo kWo
  have bbWo := FWo.binds (ps := ["self", "kind"]) fun _ _ _ _ _ _ us hl => match us, hl with | [_, _], _ => rfl
  have FWi := fun_mk (st := sWith) lWi cWi kWi
  have bbWi := FWi.binds (ps := ["self", "kind", "word"]) fun _ _ _ _ _ _ us hl => match us, hl with | [_, _, _], _ => rfl
  have FAm := fun_mk (st := sAtMost) lAm cAm kAm
  have bbAm := FAm.binds (ps := ["self", "value"]) fun _ _ _ _ _ _ us hl => match us, hl with | [_, _], _ => rfl
  have FGi := fun_mk (st := sGet) lGi cGi kGi
  have bbGi := FGi.binds (ps := ["self", "at"]) fun _ _ _ _ _ _ us hl => match us, hl with | [_, _], _ => rfl
  have FLe := fun_mk (st := sLen) lLe cLe kLe
  have bbLe := FLe.binds (ps := ["self"]) fun _ _ _ _ _ _ us hl => match us, hl with | [_], _ => rfl
  have FIt := fun_mk (st := sIter) lIt cIt kIt
  have bbIt := FIt.binds (ps := ["self"]) fun _ _ _ _ _ _ us hl => match us, hl with | [_], _ => rfl
  have FEq := fun_mk (st := sEq) lEq cEq kEq
  have bbEq := FEq.binds (ps := ["self", "other"]) fun _ _ _ _ _ _ us hl => match us, hl with | [_, _], _ => rfl
  have FSt := fun_mk (st := sStr) lSt cSt kSt
  have bbSt := FSt.binds (ps := ["self"]) fun _ _ _ _ _ _ us hl => match us, hl with | [_], _ => rfl
  have FTk := fun_mk (st := sTaken) lTk cTk kTk
  have bbTk := FTk.binds (ps := ["self", "words"]) fun _ _ _ _ _ _ us hl => match us, hl with | [_, _], _ => rfl
  have FIn : FunD K "__init__" "Marking.__init__" (defArgs sInit) (defBody sInit) (defScope sInit) [] [("other", V.str w0)] fIn _ := ⟨⟨_, _, _, _, _, _, _, _, _, _, rfl, lIn, cIn, .inl ⟨rfl, rfl⟩, .inr ⟨Dk, rfl, fun q hq => by rw [List.mem_singleton.mp hq]; exact ⟨_, dk, ⟨_, rfl⟩⟩⟩⟩, kIn⟩
  refine ⟨PySem.W.fnOf "law" "law" (defArgs sLaw) (defBody sLaw) (defScope sLaw) .none kVY dcY pmY anY cdY ctY, fun s v => .of_eq rfl, fun base _ _ => ?_⟩
  have P := l.prog
  have GK0 := ok_kept (P := l.prog) (w := w) (base := base) FK T cst FN bbN mN FC bbC mC
  have GM := ok_init (P := l.prog) (w := w) (base := base) FIn cf FK bbK mK GK0
  have GTk := ok_taken (P := l.prog) (w := w) (base := base) (C := CT) FTk cfT FK bbK mK GK0
  have MM : Mk K CM fIn := ⟨mkCM, aIn, iIn, kcCM⟩
  have MT : Mk K CT fTk := ⟨mkCT, aTk, iTk, kcCT⟩
  have GOf := ok_of (P := l.prog) (w := w) (base := base) FOf T cst FN bbN mN FC bbC mC MT GTk bbTk mT' MM GM mM
  have GO : FnR l.prog w K mg base CX0 6 fOf (spOf CM CT) := (GOf.raw bbOf .nil).imp fun vs H Q E h => by rw [List.append_nil]; exact h
  have GEv0 := ok_even (P := l.prog) (w := w) (base := base) FEv MM GM mM
  have GV : FnR l.prog w K mg base CX0 6 fEv (spEven CM) := (GEv0.raw bbEv .nil).imp fun vs H Q E h => by rw [List.append_nil]; exact h
  have cO : CMet K CM mc "of" pOf fOf := ⟨aOf, ⟨_, rOf⟩, iOf⟩
  have cV : CMet K CM mc "even" pEv fEv := ⟨aEv, ⟨_, rEv⟩, iEv⟩
  have GOt := ok_other (P := l.prog) (w := w) (mg := mg) (base := base) FOt cf
  have GKi := ok_kinds (P := l.prog) (w := w) (base := base) FKi T cf
  have pO : PropOf K CM "other" pOt fOt := ⟨aOt, sOt, tOt, ⟨_, rOt⟩⟩
  have pKi' : PropOf K CM "kinds" pKi fKi := ⟨aKi, sKi, tKi, ⟨_, rKi⟩⟩
  have GLe := ok_len (P := l.prog) (w := w) (base := base) FLe T cf
  have GIt := ok_iter (P := l.prog) (w := w) (base := base) FIt T cf
  have GGi := ok_get (P := l.prog) (w := w) (base := base) (C := CM) FGi T cst cf FN bbN mN FWo bbWo ⟨aWo, iWo, kWo⟩
  have GGiT := ok_get (P := l.prog) (w := w) (base := base) (C := CT) FGi T cst cfT FN bbN mN FWo bbWo ⟨bWo, iWo, kWo⟩
  have GAm := ok_atmost (P := l.prog) (w := w) (base := base) FAm T cst cf is mM FKi bbKi pKi' FWo bbWo ⟨aWo, iWo, kWo⟩ FL bbL mL
  have GEq := ok_eq (P := l.prog) (w := w) (base := base) FEq T cf is mM GAm bbAm ⟨aAm, iAm, kAm⟩
  have GSt := ok_str (P := l.prog) (w := w) (mg := mg) (base := base) (C := CM) FSt cf
  have GStT := ok_str (P := l.prog) (w := w) (mg := mg) (base := base) (C := CT) FSt cfT
  have GWi := ok_with (P := l.prog) (w := w) (base := base) (C := CM) FWi T cst cf FN bbN mN mM cr cO GO
  have GWiT := ok_with (P := l.prog) (w := w) (base := base) (C := CT) FWi T cst cfT FN bbN mN mM cr cO GO
  have GR := ok_right (P := l.prog) (w := w) (base := base) FR T cf FT bbT mT FX bbX mX GOt bbOt pO GKi bbKi pKi' GGi bbGi ⟨aGi, iGi, nGi⟩ GLe bbLe ⟨aLe, iLe, nLe⟩ hnb GIt bbIt ⟨aIt, iIt, nIt⟩ GSt bbSt ⟨aSt, iSt, nSt⟩
  have GTu := ok_turn (P := l.prog) (w := w) (base := base) FTu T cf is nfc hne hob ob ko ⟨_, _, ok_pick FP T FU bbU mU, mP, kP, bbP⟩ ⟨_, _, ok_words FW T FU bbU mU FP bbP mP, mW, kW, bbW⟩ ⟨_, _, GR, mR, kR, bbR⟩ ⟨_, _, ok_all FA T, mA, kA, bbA⟩ ⟨_, _, ok_changed FCh T, mCh, kCh, bbCh⟩ ⟨_, _, ok_told FT T, mT, kT, bbT⟩ mM cr cO GO GWi bbWi ⟨aWi, iWi, kWi⟩ GEq bbEq ⟨aEq, iEq, nEq⟩ GSt bbSt ⟨aSt, iSt, nSt⟩
  exact ok_law FY T cst cf cfT is nfc hne hob hnb ⟨_, _, ok_dice FD T, mD, kD, bbD⟩ ⟨_, _, ok_pull FU T, mU, kU, bbU⟩ ⟨_, _, ok_names FNm T FU bbU mU, mNm, kNm, bbNm⟩ ⟨_, _, GTu, mTu, kTu, bbTu⟩ mM cr cO GO cV GV MM GM GWiT bbWi ⟨bWi, iWi, kWi⟩ GEq bbEq ⟨aEq, iEq, nEq⟩ GSt GStT bbSt ⟨aSt, iSt, nSt⟩ ⟨bSt, iSt, nSt⟩ GLe bbLe ⟨aLe, iLe, nLe⟩ GGiT bbGi ⟨bGi, iGi, nGi⟩ GKi bbKi pKi'
end M46
open PySem PySem.W PyProof.Rows
set_option maxRecDepth 100000 in
set_option maxHeartbeats 0 in
theorem PySem.Challenge.cw_letterrules_k46_markings_by_kinds_holds : PySem.Challenge.rw_letterrules_k46_markings_by_kinds.Holds := by
  w_on; o_law; k_head; (case hw => w_witness2)
  k_fill
  refine L2.walk_of (l := PySem.Challenge.rw_letterrules_k46_markings_by_kinds) (n := 63) (k := 11) (x := "_law_script") (CX := fun _ => L2.CX0) (sp := fun w => M46.spLaw _) rfl (by decide) rfl ⟨rfl, by decide, by decide⟩ (fun w h Y => PySem.W.kIn_of Y) ?F (fun _ _ a ns hl _ hS => ⟨a, ns, rfl, hS, hl, fun _ => rfl⟩) fun _ _ _ _ _ z => z
  case F =>
    intro w mg fa h KX G hmg
    refine' M46.all_mk (mc := .type "type") KX G hmg ?aCM ?aCT ?aLN ?aWS ?lkW ?zint ?zabs ?zmax ?zmin ?zlen ?zrng ?zisi ?zstr ?ztup ?zbool ?zall ?zany ?zdict ?zlist ?zsort ?ziter ?gN ?lN ?cN ?kN ?gC ?lC ?cC ?kC ?gK ?lK ?cK ?kK ?gL ?lL ?cL ?kL ?gD ?lD ?cD ?kD ?gU ?lU ?cU ?kU ?gP ?lP ?cP ?kP ?gNm ?lNm ?cNm ?kNm ?gW ?lW ?cW ?kW ?gT ?lT ?cT ?kT ?gX ?lX ?cX ?kX ?gR ?lR ?cR ?kR ?gA ?lA ?cA ?kA ?gCh ?lCh ?cCh ?kCh ?gTu ?lTu ?cTu ?kTu ?gY ?lY ?cY ?kY ?pgCM ?hdCM ?poCM ?saCM ?nWCM ?nRCM ?mkCM ?kcCM ?pgCT ?hdCT ?poCT ?saCT ?nWCT ?nRCT ?mkCT ?kcCT ?aIn ?iIn ?lIn ?cIn ?kIn ?dk ?rdC ?gaC ?eOf ?aOf ?rOf ?iOf ?lOf ?cOf ?kOf ?eEv ?aEv ?rEv ?iEv ?lEv ?cEv ?kEv ?aOt ?sOt ?tOt ?rOt ?lOt ?cOt ?kOt ?aKi ?sKi ?tKi ?rKi ?lKi ?cKi ?kKi ?aWo ?iWo ?lWo ?cWo ?kWo ?aWi ?iWi ?lWi ?cWi ?kWi ?aAm ?iAm ?lAm ?cAm ?kAm ?aGi ?iGi ?lGi ?cGi ?kGi ?aLe ?iLe ?lLe ?cLe ?kLe ?aIt ?iIt ?lIt ?cIt ?kIt ?aEq ?iEq ?lEq ?cEq ?kEq ?aSt ?iSt ?lSt ?cSt ?kSt ?aTk ?iTk ?lTk ?cTk ?kTk ?bWo ?bWi ?bGi ?bSt ?nGi ?nLe ?nIt ?nEq ?nSt ?isa ?isn ?ist ?ism ?iso ?nfc ?hne ?hob ?hnb ?ostr ?qstr ?oint ?qint ?onon ?qnon ?otup ?qtup ?odict ?qdict
    (case aCM => k_is)
    (case aCT => k_is)
    (case aLN => k_is)
    (case aWS => k_is)
    (case lkW => k_is)
    (case zint => k_is)
    (case zabs => k_is)
    (case zmax => k_is)
    (case zmin => k_is)
    (case zlen => k_is)
    (case zrng => k_is)
    (case zisi => k_is)
    (case zstr => k_is)
    (case ztup => k_is)
    (case zbool => k_is)
    (case zall => k_is)
    (case zany => k_is)
    (case zdict => k_is)
    (case zlist => k_is)
    (case zsort => k_is)
    (case ziter => k_is)
    (case gN => k_is)
    (case lN => k_is)
    (case cN => k_is)
    (case kN => k_is)
    (case gC => k_is)
    (case lC => k_is)
    (case cC => k_is)
    (case kC => k_is)
    (case gK => k_is)
    (case lK => k_is)
    (case cK => k_is)
    (case kK => k_is)
    (case gL => k_is)
    (case lL => k_is)
    (case cL => k_is)
    (case kL => k_is)
    (case gD => k_is)
    (case lD => k_is)
    (case cD => k_is)
    (case kD => k_is)
    (case gU => k_is)
    (case lU => k_is)
    (case cU => k_is)
    (case kU => k_is)
    (case gP => k_is)
    (case lP => k_is)
    (case cP => k_is)
    (case kP => k_is)
    (case gNm => k_is)
    (case lNm => k_is)
    (case cNm => k_is)
    (case kNm => k_is)
    (case gW => k_is)
    (case lW => k_is)
    (case cW => k_is)
    (case kW => k_is)
    (case gT => k_is)
    (case lT => k_is)
    (case cT => k_is)
    (case kT => k_is)
    (case gX => k_is)
    (case lX => k_is)
    (case cX => k_is)
    (case kX => k_is)
    (case gR => k_is)
    (case lR => k_is)
    (case cR => k_is)
    (case kR => k_is)
    (case gA => k_is)
    (case lA => k_is)
    (case cA => k_is)
    (case kA => k_is)
    (case gCh => k_is)
    (case lCh => k_is)
    (case cCh => k_is)
    (case kCh => k_is)
    (case gTu => k_is)
    (case lTu => k_is)
    (case cTu => k_is)
    (case kTu => k_is)
    (case gY => k_is)
    (case lY => k_is)
    (case cY => k_is)
    (case kY => k_is)
    (case pgCM => k_is)
    (case hdCM => k_is)
    (case poCM => k_is)
    (case saCM => k_is)
    (case nWCM => k_is)
    (case nRCM => k_is)
    (case mkCM => k_is)
    (case kcCM => k_is)
    (case pgCT => k_is)
    (case hdCT => k_is)
    (case poCT => k_is)
    (case saCT => k_is)
    (case nWCT => k_is)
    (case nRCT => k_is)
    (case mkCT => k_is)
    (case kcCT => k_is)
    (case aIn => k_is)
    (case iIn => k_is)
    (case lIn => k_is)
    (case cIn => k_is)
    (case kIn => k_is)
    (case dk => k_is)
    (case rdC => first | k_is | kernel_rfl)
    (case gaC => first | k_is | kernel_rfl)
    (case eOf => k_is)
    (case aOf => first | k_is | kernel_rfl)
    (case rOf => first | k_is | kernel_rfl)
    (case iOf => first | k_is | kernel_rfl)
    (case lOf => k_is)
    (case cOf => k_is)
    (case kOf => k_is)
    (case eEv => k_is)
    (case aEv => first | k_is | kernel_rfl)
    (case rEv => first | k_is | kernel_rfl)
    (case iEv => first | k_is | kernel_rfl)
    (case lEv => k_is)
    (case cEv => k_is)
    (case kEv => k_is)
    (case aOt => k_is)
    (case sOt => first | k_is | kernel_rfl)
    (case tOt => first | k_is | kernel_rfl)
    (case rOt => first | k_is | kernel_rfl)
    (case lOt => k_is)
    (case cOt => k_is)
    (case kOt => k_is)
    (case aKi => k_is)
    (case sKi => first | k_is | kernel_rfl)
    (case tKi => first | k_is | kernel_rfl)
    (case rKi => first | k_is | kernel_rfl)
    (case lKi => k_is)
    (case cKi => k_is)
    (case kKi => k_is)
    (case aWo => k_is)
    (case iWo => k_is)
    (case lWo => k_is)
    (case cWo => k_is)
    (case kWo => k_is)
    (case aWi => k_is)
    (case iWi => k_is)
    (case lWi => k_is)
    (case cWi => k_is)
    (case kWi => k_is)
    (case aAm => k_is)
    (case iAm => k_is)
    (case lAm => k_is)
    (case cAm => k_is)
    (case kAm => k_is)
    (case aGi => k_is)
    (case iGi => k_is)
    (case lGi => k_is)
    (case cGi => k_is)
    (case kGi => k_is)
    (case aLe => k_is)
    (case iLe => k_is)
    (case lLe => k_is)
    (case cLe => k_is)
    (case kLe => k_is)
    (case aIt => k_is)
    (case iIt => k_is)
    (case lIt => k_is)
    (case cIt => k_is)
    (case kIt => k_is)
    (case aEq => k_is)
    (case iEq => k_is)
    (case lEq => k_is)
    (case cEq => k_is)
    (case kEq => k_is)
    (case aSt => k_is)
    (case iSt => k_is)
    (case lSt => k_is)
    (case cSt => k_is)
    (case kSt => k_is)
    (case aTk => k_is)
    (case iTk => k_is)
    (case lTk => k_is)
    (case cTk => k_is)
    (case kTk => k_is)
    (case bWo => k_is)
    (case bWi => k_is)
    (case bGi => k_is)
    (case bSt => k_is)
    (case nGi => first | k_is | kernel_rfl)
    (case nLe => first | k_is | kernel_rfl)
    (case nIt => first | k_is | kernel_rfl)
    (case nEq => first | k_is | kernel_rfl)
    (case nSt => first | k_is | kernel_rfl)
    (case isa => first | k_is | kernel_rfl)
    (case isn => first | k_is | kernel_rfl)
    (case ist => first | k_is | kernel_rfl)
    (case ism => first | k_is | kernel_rfl)
    (case iso => first | k_is | kernel_rfl)
    (case nfc => first | k_is | kernel_rfl)
    (case hne => first | k_is | kernel_rfl)
    (case hob => first | k_is | kernel_rfl)
    (case hnb => first | k_is | kernel_rfl)
    (case ostr => first | k_is | kernel_rfl)
    (case qstr => first | k_is | kernel_rfl)
    (case oint => first | k_is | kernel_rfl)
    (case qint => first | k_is | kernel_rfl)
    (case onon => first | k_is | kernel_rfl)
    (case qnon => first | k_is | kernel_rfl)
    (case otup => first | k_is | kernel_rfl)
    (case qtup => first | k_is | kernel_rfl)
    (case odict => first | k_is | kernel_rfl)
    (case qdict => first | k_is | kernel_rfl)
    all_goals exact #[]
