import PyProof.Rows.All
import Wide.All
import OpenK.AllK
import Wide.FinOn
import HandS.ForMost
import HandS.ExcInit
import HandS.ExcIs
import HandS.IsInst
import HandS.Wide
import KE.KExcMake
import HandS.ExcBuiltin
import HandS.StrMore
import HandS.TryMany
import HandS.ExcField
import PySem.Challenge.RW_letterrules_k01_names_and_events
import HandS.ForExc
import HandS.DictComp
import HandS.Defaults
import HandS.Deep
import HandS.Style
import HandS.Walk
import HandS.Lambda
import PyProof.ReprRoads
import HandS.EndTab
import KE.KNest
set_option Elab.async false
set_option linter.all false
set_option maxRecDepth 100000
set_option maxHeartbeats 4000000
/-! Exceptions of own classes held as values: made, their fields read, asked by isinstance. -/
namespace K0
open PySem PySem.Spec PyProof.Rows L2

/-! ### isinstance of an exception, with or without a dict of its own -/
section
variable {prog : Program} {w : World} {A : Around} {E : Value → Shared → Prop} {s : Shared} {K : PySem.W.Frag} {x D : Addr} {ox : Obj} {od : Option Obj}
open PySem.W
theorem found_data {C : Addr} {name : Str} {a g : Value} (hc : (clsIn K C).isSome = true) (ha : findIn K (.ref C) name = some (some a)) (hg : specialIn K a "__get__" = some (some g)) (ht : takesIn K a = some true) :
    findObj K C od name = some (.bind g a) := by
  obtain ⟨cd, e⟩ := Option.isSome_iff_exists.mp hc
  unfold findObj; rw [e, Option.bind_some, ha, Option.bind_some]; simp [hg, ht]
theorem class_of (c : ExcC K D) {Q : Option Value → Shared → Prop} (X : K.In s.heap) (I : InstAt s.heap x ox D od) (h : Q (some (.ref D)) { s with toks := s.toks + 1 }) :
    wpAny (model prog w) A (getAttr? (.ref x) "__class__") Q E s := by
  have hf : findObj K D od "__class__" = some (.bind (.builtin "getset_descriptor.__get__") (.builtin "object.__class__")) :=
    found_data (by obtain ⟨cd, e, _⟩ := any_some c.hd; rw [e]; rfl) c.ha c.hn c.ht
  obtain ⟨hp, g, d, t, os⟩ := s
  have l0 := I.type (M := model prog w)
  have l1 := looks_findIn (M := model prog w) X c.hg
  have l2 := looks_findIn (M := model prog w) X c.hk
  have l3 := looks_find (M := model prog w) X I hf
  have sb : Looks (model prog w) hp (isInstance (.ref x) (.type "BaseException")) true := l0.andThen (looks_subIn X c.hs)
  have z0 : (false && onTheHeap (Value.builtin "BaseException.__getattribute__")) = false := rfl
  have z2 : (Value.builtin "BaseException.__getattribute__" == Value.builtin "object.__getattribute__") = false := by decide +kernel
  have z1 : (onTheHeap (Value.ref D) && Value.builtin "BaseException.__getattribute__" == Value.builtin "object.__getattribute__") = false := by rw [z2] <;> rfl
  unfold getAttr? getAttrBy? getAttrBy
  refine wpAny_bind (wpAny_mkText (wpAny_bind (wpAny_attempt (wpAny_holding (wpAny_bind (l0.at (wpAny_bind (l1.at ?a))))))))
  show wpAny _ _ (if (onTheHeap (Value.ref D) && Value.builtin "BaseException.__getattribute__" == Value.builtin "object.__getattribute__") = true then _ else _) _ _ _
  rw [z1, if_neg Bool.false_ne_true]
  unfold getAttrByItsOwn hookBefore; refine wpAny_bind ?_
  rw [if_pos (show onTheHeap (Value.ref D) = true from rfl)]
  refine l2.at ?_; refine wpAny_bind (wpAny_attempt (wpAny_holding ?_))
  unfold callGetattribute; rw [z0, if_neg Bool.false_ne_true]
  unfold boundAndCalled; rw [PySem.F.excAttr_ValueError.ga.bind (.ref x)]
  refine wpAny_bind (wpAny_pure ?_)
  show wpAny _ _ (call (.builtin "BaseException.__getattribute__") [.ref x, .str "__class__" t]) _ _ _
  refine wpAny_call (codeAny_call_builtin PySem.F.excAttr_ValueError.ga.plain PySem.F.entry_bexc_ga ?b)
  refine @check_slot (model prog w) _ _ ⟨hp, g, d, t + 1, os⟩ "BaseException.__getattribute__" "BaseException" "__getattribute__" (.ref x) [.str "__class__" t] [] _ (by decide +kernel) (by decide +kernel) sb (PySem.F.args_bexc_ga (.ref x) (.str "__class__" t)) ?c
  unfold Builtin.«object.__getattribute__»
  refine wpAny_bind (wpAny_of_eq (a := ((Value.ref x : Value), [Value.str "__class__" t])) (by first | rfl | (simp only [slotArgs]; rfl)) ?d)
  refine wpAny_bind (wpAny_pure (wpAny_bind (l0.at (wpAny_bind (l3.at ?e)))))
  show wpAny _ _ (holding [Value.builtin "object.__class__"] (call (.builtin "getset_descriptor.__get__") [.builtin "object.__class__", .ref x, .ref D]) >>= ret) _ _ _
  refine wpAny_bind (wpAny_holding (wpAny_call (class_get (s := ⟨hp, g, d, t + 1, os⟩) (ox := ox) (od := od) X I c.hm ?f)))
  refine wpAny_pure ?_
  show wpAny _ _ (handedOut (.ref D)) _ _ _
  rw [handedOut_of (v := .ref D) rfl]
  first | exact wpAny_pure (wpAny_pure h) | exact wpAny_pure h | exact wpAny_pure (wpAny_bind (wpAny_pure (wpAny_pure h)))
theorem kit_exc (c : ExcC K D) : KitX K (.ref x) (.ref D) (fun h => InstAt h x ox D od) where
  ty := fun _ _ _ I => I.type
  it := fun _ _ X _ => by
    obtain ⟨cd, hc, _⟩ := any_some c.hd
    unfold clsIn at hc; split at hc
    · rename_i c' d' cd' sl' ho
      intro A' Q' E' s' k q; unfold isType loadHead
      exact wpAny_bind (wpAny_loadPart (k _ _ (X _ _ ho)) (wpAny_pure q))
    · cases hc
  ne := fun h tp dd its n sl X htp => by
    obtain ⟨cd, hc, _⟩ := any_some c.hd
    refine Bool.eq_false_iff.mpr fun q => ?_
    have e : D = tp := Value.ref.inj (beq_iff_eq.mp q)
    subst e; unfold clsIn at hc; split at hc
    · rename_i c' d' cd' sl' ho
      have z := (X _ _ ho).symm.trans htp
      cases z
    · cases hc
  ca := fun X I k => class_of c X I k
end

/-- at a: an exception of the class at C that is made (with a field f that holds v, or none) -/
def ExAt (H : Hp) (a C : Addr) (fv : Option (Str × V)) : Prop := match fv with
  | none => H a = some (exo a C none)
  | some (f, v) => ∃ d, H a = some (exo a C (some d)) ∧ H d = some (exd d [(f, v)])
theorem ExAt.same {H H' : Hp} {a C : Addr} {fv : Option (Str × V)} (h : ExAt H a C fv) (s : Same H H') : ExAt H' a C fv := by
  cases fv with
  | none => exact s _ _ h
  | some p => obtain ⟨d, h1, h2⟩ := h; exact ⟨d, s _ _ h1, s _ _ h2⟩
section
variable {X : Cx} {pins : List (Addr × Obj)} {σ : L2.St} {H : Hp} {s : Shared}
theorem ExAt.inst {a C : Addr} {fv : Option (Str × V)} (I : Inv X pins σ H s) (h : ExAt H a C fv) : ∃ ox od, PySem.W.InstAt s.heap a ox C od ∧ ∀ f v, fv = some (f, v) → ∃ o u, od = some o ∧ RelV v u ∧ PySem.W.lookIn f o = some (some u) := by
  cases fv with
  | none =>
    obtain ⟨t1, ho⟩ := exo_at I.hok h
    exact ⟨_, none, ⟨ho, rfl, rfl, trivial⟩, fun f v e => by cases e⟩
  | some p =>
    obtain ⟨f, v⟩ := p
    obtain ⟨d, h1, h2⟩ := h
    obtain ⟨t1, ho⟩ := exo_at I.hok h1
    obtain ⟨mA, hns, hr⟩ := exd_at I.hok h2
    obtain ⟨o, hd, hl⟩ := lookIn_ns hns
    refine ⟨_, some o, ⟨ho, rfl, rfl, hd⟩, fun f' v' e => ?_⟩
    cases e
    have l : List.lookup f [(f, v)] = some v := by simp [List.lookup]
    obtain ⟨u, hu, ru⟩ := RelO.some_of (v := v) (o := mA f) (by rw [← l]; exact hr f)
    exact ⟨o, u, rfl, ru, by rw [hl, hu]⟩
end
def rIsX (K : PySem.W.Frag) : List V → Hp → VK → Prop := fun xs H Q => ∃ (a C : Addr) (fv : Option (Str × V)) (c : V) (cv : Value) (b : Bool), xs = [.ref a, c] ∧ ExAt H a C fv ∧ ExcC K C ∧ ClsV c cv ∧ PySem.W.kitOne K (.ref C) cv = some b ∧ Q (.bl b) H
theorem call_isX {X : Cx} : CallR X (.builtin "isinstance") (rIsX X.K) := by
  intro pins s σ H xs us Q I r h
  obtain ⟨a, C, fv, c, cv, b, rfl, hx, xc, k, e, q⟩ := h
  obtain ⟨u1, u2, rfl, r1, r2⟩ := vals2 r
  obtain rfl : u1 = Value.ref a := r1
  have e2 := k.eq r2
  subst e2
  obtain ⟨ox, od, J, _⟩ := hx.inst I
  exact PySem.W.kia_one (kit_exc xc) I.kIn J e (fun z => nomatch z) fun tk => ⟨.bl b, H, I.tok tk, rfl, q⟩
/-- e.f, e an exception with the field f -/
def tExF (K : PySem.W.Frag) (f : Str) (te : TE) : TE := fun σ H Q => te σ H fun x H1 => ∃ (a C : Addr) (v : V), x = .ref a ∧ ExAt H1 a C (some (f, v)) ∧ ExcC K C ∧ PySem.W.findIn K (.ref C) f = some none ∧ Q v H1
theorem pe_exf {X : Cx} {e : Expr} {te : TE} {f : Str} {pos : Pos} (he : PE X e te) (hb : attributeBase e f X.env (eval e X.env) = eval e X.env := by rfl) : PE X (.Attribute e f pos) (tExF X.K f te) := by
  refine ⟨fun pins s σ H Q I h => ?_⟩
  refine attr_of hb (thn (he.run pins s σ H _ I h) fun u s1 ⟨x, H1, I1, rx, a, C, v, ex, hx, xc, hn, q⟩ => ?_)
  subst ex
  obtain rfl : u = Value.ref a := rx
  obtain ⟨ox, od, J, hv⟩ := hx.inst I1
  obtain ⟨o, u, eo, ru, hl⟩ := hv f v rfl
  subst eo
  exact HandSPX.exc_get I1.kIn J xc.hg xc.hk xc.hs (PySem.W.findObj_own xc.hd hn rfl hl) (handed_of ru) ⟨v, H1, I1.tok _, ru, q⟩

/-! ### made: a class without an __init__ of its own -/
theorem pe_exm {X : Cx} {C : Addr} {bmB : List Value} {B newId initId : String} {x : Str} {e : Expr} {ta : TE} {p pos : Pos} (F : ExcBaseFacts B newId initId bmB) (q : PySem.W.excInitIn X.K C bmB newId = true)
    (hi : PySem.W.findIn X.K (.ref C) "__init__" = some (some (.builtin initId))) (gC : X.mg x = some (.ref C)) (kC : PySem.W.keepIn X.K (.ref C) = true) (hg : Gl X x) (he : PE X e ta)
    (hs : starEach [e] X.env = (false, eval e X.env) :: starEach [] X.env := by rfl) (hdb : (x == ("__debug__" : Str)) = false := by decide) :
    PE X (.Call (.Name x p) [e] [] pos) (fun σ H Q => ta σ H fun _ H1 => ∀ a, H1 a = none → Q (.ref a) (upd H1 a (exo a C none))) := by
  refine ⟨fun pins s σ H Q I h => ?_⟩
  refine wpAny_Call_Name_kw (ld_glob I hg gC ?_ hdb)
  refine PySem.W.callWith_K (h₀ := X.base) I.ok.mod.kin kC ?_ hs (by rfl)
  rw [hs]
  show wpAny _ _ (spliced ((false, eval e X.env) :: backTo pos (starEach [] X.env))) _ _ s
  refine Calls.spliced_cons (thn (he.run pins s σ H _ I h) fun u s1 ⟨v, H1, I1, r1, q1⟩ => ?_)
  refine Calls.spliced_nil ⟨I1.kIn, ?_⟩
  show wpAny _ _ (call (.ref C) [u]) _ _ _
  obtain ⟨nm, N, qn, bs, bm, hdct, sn, sub, ab, col, dd, k0, k1, k2, k3, k5, hC, hT⟩ := PySem.W.excInit_of I1.kIn q
  have hl := PySem.W.looks_findIn (M := model X.prog X.w) I1.kIn hi
  obtain ⟨hp, g, d, tk, os⟩ := s1
  refine PySem.W.call_B F hT hC hl (by show 1 ≤ sizeLine; rw [sizeLine_eq]; omega) fun h' k ha ht => ?_
  have hsz : hp.objs.size ≤ hp.objs.size + 1 := Nat.le_succ _
  exact ⟨.ref (hp.objs.size + 1), _, I1.laid (t' := tk) (a := hp.objs.size + 1) (o := exo (hp.objs.size + 1) C none) k hsz (exo_ok ha), rfl, q1 _ (I1.hok.fresh hsz)⟩
end K0
/-! An own exception class whose base's __new__ may be an elder class's: C(..) with an __init__ of its own; Base.__init__(self, ..); the first field stored. -/
namespace K0
open PySem PySem.Spec PyProof.Rows
open Builtin Builtin.ObjectAttr

/-- what B's own __init__ is in the model -/
structure InitF (B initId : String) : Prop where
  init : Slot B "__init__" initId
  entry : entryFor table initId = some Builtin.«BaseException.__init__»
  split : splitId initId = some (B, "__init__")
  kind : builtinKind initId = some .slot
  row : Manifest.signature? initId = some ⟨.positional, "*", B, .self, [⟨"args", .varPos, false⟩]⟩
  star : (B != "*") = true
theorem InitF.of {B n i : String} (c : PyProof.Rows.ExcClass B n i) : InitF B i := ⟨c.init, c.initEntry, c.initSplit, c.initKind, c.initSig, c.notStar⟩
/-- what a class's tail of bases says where its __new__ is that of Bn -/
structure TailF (Bn : String) (bm : List Value) : Prop where
  hB : bm.contains (.type Bn) = true
  hA : bm.contains (.type "AttributeError") = false
  hN : bm.contains (.type "NameError") = false

section
variable {prog : Program} {w : World} {A : Around} {E : Value → Shared → Prop} {R : Result → Shared → Prop} {h : Heap} {g : Array GenState} {d : Drawn} {t : Nat} {os : OsState}
variable {nm q : PySem.Str} {C N : Addr} {bs bm bmB : List Value} {hdct : Bool} {sn : List PySem.Str} {sub : List Value} {ab : Bool} {col : Option Bool} {dd : Option Addr} {k0 k1 k2 k3 k5 : Option Value} {B Bi newId initN initId : String}
theorem chk_new {M : Model} (F : ExcBaseFacts B newId initN bmB) (T : TailF B bm) {rest : List Value} {Q : Unit → Shared → Prop}
    (hC : h.get? C = some (excClassObj nm q C N bs bm hdct sn sub ab col dd k0 k1 k2 k3 k5 newId)) (hq : Q () ⟨h, g, d, t, os⟩) : wpAny M A (checkBuiltinCall newId ⟨.ref C :: rest, []⟩) Q E ⟨h, g, d, t, os⟩ := by
  have c1 : (Value.ref C :: bm).contains (.type B) = true := by rw [List.contains_cons, T.hB, Bool.or_true]
  have c2 := F.noStar
  simp only [checkBuiltinCall, F.newKind, F.newSplit, F.newRow]
  repeat (first | refine wpAny_loadPart_at hC ?_ | (refine wpAny_isSubtype_exc hC ?_; rw [c1]) | refine wpAny_staticBase_exc hC ?_ | refine wpAny_madeBy_exc hC ?_ | simp only [bne_self_eq_false, Bool.false_eq_true, if_false] | wp_step)
  exact hq
theorem chk_init {M : Model} (G : InitF Bi initId) (hB : bm.contains (.type Bi) = true) {e : Addr} {oe : Obj} {rest : List Value} {Q : Unit → Shared → Prop}
    (hC : h.get? C = some (excClassObj nm q C N bs bm hdct sn sub ab col dd k0 k1 k2 k3 k5 newId)) (he : h.get? e = some oe) (hcls : oe.cls = .ref C) (hq : Q () ⟨h, g, d, t, os⟩) : wpAny M A (checkBuiltinCall initId ⟨.ref e :: rest, []⟩) Q E ⟨h, g, d, t, os⟩ := by
  have c1 : (Value.ref C :: bm).contains (.type Bi) = true := by rw [List.contains_cons, hB, Bool.or_true]
  have c2 := G.star
  simp only [checkBuiltinCall, G.kind, G.split, G.row]
  repeat (first | (with_reducible refine wpAny_loadPart_at he ?_; rw [hcls]) | with_reducible refine wpAny_loadPart_at hC ?_ | (with_reducible refine wpAny_isSubtype_exc hC ?_; rw [c1]) | wp_step)
  refine wpAny_onRaise ?_
  have z : ∀ (a b : String) (n : Nat), Bind.check ⟨.positional, "*", Bi, .self, [⟨"args", .varPos, false⟩]⟩ a b n (List.map (fun x => x.fst) ({ pos := Value.ref e :: rest } : Args).kw) = pure () := fun a b n => check_star_args _ _ _ _ _ _
  rw [z]
  exact wpAny_pure hq
theorem new_ex (F : ExcBaseFacts B newId initN bmB) (T : TailF B bm) {rest : List Value} (hC : h.get? C = some (excClassObj nm q C N bs bm hdct sn sub ab col dd k0 k1 k2 k3 k5 newId))
    (hq : R (.ok (.ret (.ref (h.objs.size + 1)))) ⟨(h.push { cls := .type "tuple", data := .seq rest.toArray }).push { cls := .ref C, data := .fields #[.ref h.objs.size, .none, .none, .none, .bool false, .none] }, g, d, t, os⟩) (hrest : rest.length ≤ sizeLine) :
    codeAny (model prog w) A (.builtin newId ⟨.ref C :: rest, []⟩) R ⟨h, g, d, t, os⟩ := by
  have c0 := F.ends
  have c1 : (Value.ref C :: bm).contains (.type B) = true := by rw [List.contains_cons, T.hB, Bool.or_true]
  have c2 : (Value.ref C :: bm).contains (.type "AttributeError") = false := by rw [List.contains_cons, T.hA] <;> rfl
  have c3 : (Value.ref C :: bm).contains (.type "NameError") = false := by rw [List.contains_cons, T.hN] <;> rfl
  refine codeAny_builtinAt F.entry ?_
  unfold Builtin.«BaseException.__new__»; refine PySem.wpAt_bind ?_
  show PySem.wpAt _ _ _ (stack >>= _) _ _ _
  refine PySem.wpAt_bind (PySem.wpAt_stack fun p below => PySem.wpAt_of_wpAny ?_); wp_walk
  refine PySem.wpAt_of_wpAny ?_; rw [F.owner]
  repeat (first | with_reducible refine wpAny_madeHere_exc F.canon hC ?_ | with_reducible refine wpAny_loadPart_at hC ?_ | (with_reducible refine wpAny_isSubtype_exc hC ?_; first | rw [c1] | rw [c2] | rw [c3]) | wp_step)
  show R _ _
  rw [Heap.size_push]; exact hq
theorem tcall_ex (F : ExcBaseFacts B newId initN bmB) (T : TailF B bm) {rest : List Value} {fI : Addr} {Q : Fin → Shared → Prop} (hC : h.get? C = some (excClassObj nm q C N bs bm hdct sn sub ab col dd k0 k1 k2 k3 k5 newId))
    (hi : PySem.W.Looks (model prog w) h (typeLookup (.ref C) "__init__") (some (.ref fI))) (hb : ∀ self, PySem.W.Looks (model prog w) h (bindSpecial (.ref fI) self) (.ref fI, [self])) (hrest : rest.length ≤ sizeLine)
    (hq : codeAny (model prog w) A (.call (.ref fI) ⟨.ref (h.objs.size + 1) :: rest, []⟩) (fun r s' => match r with | .ok (.ret v) => v = .none ∧ Q (.done (.ret (.ref (h.objs.size + 1)))) s' | .ok _ => False | .error e => E e s') ⟨(h.push (W.kdv_tup rest)).push (HandSPX.excO C h.objs.size), g, d, t, os⟩) :
    wpAny (model prog w) A (Builtin.«type.__call__» ⟨.ref C :: rest, []⟩) Q E ⟨h, g, d, t, os⟩ := by
  repeat (first | with_reducible refine wpAny_loadPart_at hC ?_ | with_reducible refine wpAny_madeBy_exc hC ?_ | wp_step)
  refine codeAny_call_builtin_code (Code.quiet_builtin _ F.quiet) (chk_new F T hC ?_); refine new_ex F T hC ?_ hrest
  show wpAny _ _ _ _ _ _
  have k : ∀ b o, h.get? b = some o → ((h.push (W.kdv_tup rest)).push (HandSPX.excO C h.objs.size)).get? b = some o := fun b o e => Heap.get?_push_of_some _ (Heap.get?_push_of_some _ e)
  have hC1 := k _ _ hC
  have hget : ((h.push (W.kdv_tup rest)).push (HandSPX.excO C h.objs.size)).get? (h.objs.size + 1) = some (HandSPX.excO C h.objs.size) := by heap_get
  have cC : (Value.ref C :: bm).contains (.ref C) = true := by simp
  have i1 := hi.keeps k; have b1 := (hb (.ref (h.objs.size + 1))).keeps k
  unfold isInstance
  repeat (first | with_reducible refine wpAny_loadPart_at hget ?_ | (with_reducible refine wpAny_isSubtype_exc hC1 ?_; rw [cC]) | wp_step)
  show wpAny _ _ (typeLookup (.ref C) _) _ _ _
  refine i1.at ?_; refine wpAny_holding (wpAny_bind (b1.at ?_))
  refine wpAny_bind (wpAny_call (codeAny_mono hq fun r s' z => ?_))
  rcases r with e | (v | _ | _ | _) <;> first | exact z | exact z.elim | skip
  obtain ⟨rfl, z⟩ := z
  first | exact wpAny_pure (wpAny_pure z) | (wp_walk; exact z)
theorem call_ex (F : ExcBaseFacts B newId initN bmB) (T : TailF B bm) {rest : List Value} {fI : Addr} (hC : h.get? C = some (excClassObj nm q C N bs bm hdct sn sub ab col dd k0 k1 k2 k3 k5 newId))
    (hi : PySem.W.Looks (model prog w) h (typeLookup (.ref C) "__init__") (some (.ref fI))) (hb : ∀ self, PySem.W.Looks (model prog w) h (bindSpecial (.ref fI) self) (.ref fI, [self])) (hrest : rest.length ≤ sizeLine)
    (hq : codeAny (model prog w) (A.under (.builtin "type.__call__" ⟨.ref C :: rest, []⟩)) (.call (.ref fI) ⟨.ref (h.objs.size + 1) :: rest, []⟩) (W.InitBack (h.objs.size + 1) R) ⟨(h.push (W.kdv_tup rest)).push (HandSPX.excO C h.objs.size), g, d, t, os⟩) :
    codeAny (model prog w) A (.call (.ref C) ⟨rest, []⟩) R ⟨h, g, d, t, os⟩ := by
  have f1 := tc_lookup; have f2 := tc_bind (.ref C)
  have hTy : (⟨h, g, d, t, os⟩ : Shared).TypeIs (.ref C) "type" := ⟨_, hC, rfl⟩
  refine codeAny_of_tree ?_
  show wpAny _ _ (callAny (.ref C) _) _ _ _
  repeat (any_goals (first | assumption | with_reducible refine wpAny_loadPart_at hC ?_ | wp_step))
  refine ⟨rfl, ?_⟩
  refine codeAny_call_builtin_at (Code.quiet_builtin _ (by decide +kernel)) entry_typeCall (wpAny_check_type_call_sub hC (tcall_ex F T hC hi hb hrest ?_))
  refine codeAny_mono hq fun r s' z => ?_
  rcases r with e | (v | _ | _ | _) <;> exact z
/-- Base.__init__(e, ..): the args are laid anew -/
theorem base_init (G : InitF Bi initId) (hB : bm.contains (.type Bi) = true) {e t0 : Addr} {rest : List Value} (hC : h.get? C = some (excClassObj nm q C N bs bm hdct sn sub ab col dd k0 k1 k2 k3 k5 newId)) (he : h.get? e = some (HandSPX.excO C t0)) (hrest : rest.length ≤ sizeLine)
    (hq : ∀ h' t1, (∀ b o, b ≠ e → h.get? b = some o → h'.get? b = some o) → h'.get? e = some (HandSPX.excO C t1) → R (.ok (.ret .none)) ⟨h', g, d, t, os⟩) : codeAny (model prog w) A (.call (.builtin initId) ⟨.ref e :: rest, []⟩) R ⟨h, g, d, t, os⟩ := by
  refine codeAny_call_builtin G.init.plain G.entry (chk_init G hB hC he rfl ?_); wp_walk
  refine hq _ h.objs.size (fun b o hb ho => ?_) ?_
  · rw [Heap.get?_update_other _ _ (Ne.symm hb)]; exact Heap.get?_push_of_some _ ho
  · rw [Heap.get?_update_self _ (Heap.get?_push_of_some _ he) rfl] <;> rfl
end
section
variable {prog : Program} {w : World} {A : Around} {E : Value → Shared → Prop} {R : Result → Shared → Prop} {hp : Heap} {g : Array GenState} {d : Drawn} {t : Nat} {os : OsState}
/-- the class's line lets a field be stored -/
structure Passes (C : Addr) (cd : ClassData) : Prop where
  ne : cd.mro.isEmpty = false
  ob : cd.mro.contains (.type "object") = true
  ok : ∀ self : Value, refuseLoop self "__setattr__" cd.mro = pure ()
  hd : cd.hasDict = true
theorem osa_new {K : W.Frag} {name : PySem.Str} {tk : Tok} {v : Value} {x C : Addr} {fv : Array Value} {cd : ClassData}
    (X : K.In hp) (hx : hp.get? x = some { cls := .ref C, data := .fields fv }) (hcd : W.clsIn K C = some cd) (P : Passes C cd) (ha : W.findIn K (.ref C) name = some none)
    (hq : ∀ h' tk' dx, (∀ b o, b ≠ x → hp.get? b = some o → h'.get? b = some o) → hp.objs.size ≤ dx → dx ≠ x → h'.get? x = some { cls := .ref C, dict := some dx, data := .fields fv } → h'.Ns1 dx (fun y => if y = name then some v else none) → R (.ok (.ret .none)) ⟨h', g, d, tk', os⟩) :
    codeAny (model prog w) A (.call (.builtin "object.__setattr__") ⟨[.ref x, .str name tk, v], []⟩) R ⟨hp, g, d, t, os⟩ := by
  have I : W.InstAt hp x { cls := .ref C, data := .fields fv } C none := ⟨hx, rfl, rfl, trivial⟩
  have SF := F.store_object
  have hxs : x ≠ hp.objs.size := Nat.ne_of_lt (Heap.lt_size hx)
  have sb : W.Looks (model prog w) hp (isInstance (.ref x) (.type "object")) true := I.type.andThen (W.looks_mroIn X (by unfold W.mroIn; rw [hcd, Option.bind_some, if_neg (by rw [P.ne]; decide), P.ob]))
  refine codeAny_call_builtin SF.slot.plain SF.entry (@W.check_slot (model prog w) _ _ ⟨hp, g, d, t, os⟩ "object.__setattr__" "object" "__setattr__" (.ref x) [.str name tk, v] [] _ SF.kind SF.split sb (SF.args (.ref x) (.str name tk) v) ?_)
  have l1 : W.Looks (model prog w) hp (mroOf (.ref C)) cd.mro := (W.looks_clsIn X hcd).andThen .now
  have l2 : W.Looks (model prog w) hp (storeTaker? none) none := .now
  have l3 : W.Looks (model prog w) hp (classData C) cd := W.looks_clsIn X hcd
  rw [W.osa_eq, refuse_eq]
  refine wpAny_bind (wpAny_bind (I.type.at (wpAny_bind (l1.at ?b)))); rw [P.ok]
  refine wpAny_pure (wpAny_bind (I.type.at (wpAny_bind ((W.looks_findIn X ha).at (wpAny_bind (l2.at ?c))))))
  show wpAny _ _ (storeInOwnDict (.ref x) (.ref C) (.str name tk) name v false) _ _ _
  have hd := P.hd
  obtain ⟨nm, bs, mro, ns, qn, hd', sn, sb', ab, col, del⟩ := cd
  dsimp only at hd
  subst hd
  unfold storeInOwnDict ownDictForStores
  repeat (first | with_reducible refine HandSPX.store_in_new ?_ ?_ | with_reducible refine wpAny_loadPart_at hx ?_ | with_reducible refine l3.at ?_ | wp_step)
  · exact ⟨_, #[], _, (Heap.get?_update_ne _ _ _ _ hxs.symm).trans (Heap.get?_push_at rfl rfl), rfl, fun e he => absurd he (by simp), fun _ => rfl⟩
  · intro h' tk' hn' hs
    have hx1 : (hp.push { cls := .type "dict", data := .dict #[] }).get? x = some { cls := .ref C, data := .fields fv } := Heap.get?_push_of_some _ hx
    refine hq h' tk' hp.objs.size (fun b o hb ho => ?_) (Nat.le_refl _) hxs.symm ?_ hn'
    · exact (hs.2 b (Nat.ne_of_lt (Heap.lt_size ho))).trans ((Heap.get?_update_ne _ _ _ _ hb).trans (Heap.get?_push_of_some _ ho))
    · exact (hs.2 x hxs).trans (Heap.get?_update_self _ hx1 rfl)
end
end K0
/-! Own exception classes with an __init__ of their own that calls their base's and keeps one value. -/
namespace K0
open PySem PySem.Spec PyProof.Rows L2

/-- what the written part says of such a class: B its built-in base, Bn the class whose __new__ it has, f its field -/
structure OwnX (K : PySem.W.Frag) (C : Addr) (B Bn newId : String) (f : PySem.Str) : Prop where
  cls : ∃ nm q N bs bm sn sub ab col dd k0 k1 k2 k3 k5, K.lookup C = some (excClassObj nm q C N bs bm true sn sub ab col dd k0 k1 k2 k3 k5 newId) ∧ TailF Bn bm ∧ bm.contains (.type B) = true ∧ bm.contains (.type "object") = true ∧ ∀ self : Value, refuseLoop self "__setattr__" bm = pure ()
  sa : PySem.W.findIn K (.ref C) "__setattr__" = some (some (.builtin "object.__setattr__"))
  noF : PySem.W.findIn K (.ref C) f = some none
  kC : PySem.W.keepIn K (.ref C) = true
section
variable {K : PySem.W.Frag} {C : Addr} {B Bn newId : String} {f : PySem.Str}
theorem OwnX.line (T : OwnX K C B Bn newId f) : ∃ cd, PySem.W.clsIn K C = some cd ∧ Passes C cd := by
  obtain ⟨nm, q, N, bs, bm, sn, sub, ab, col, dd, k0, k1, k2, k3, k5, hC, t1, t2, t3, t4⟩ := T.cls
  refine ⟨{ name := nm, bases := bs, mro := .ref C :: bm, ns := N, qualname := q, hasDict := true, slotNames := sn, subclasses := sub, abstract := ab, collection := col, hasDel := false }, by unfold PySem.W.clsIn; rw [hC] <;> rfl, ⟨rfl, ?_, fun self => ?_, rfl⟩⟩
  · show (Value.ref C :: bm).contains (.type "object") = true
    rw [List.contains_cons, t3, Bool.or_true]
  · show refuseLoop self "__setattr__" (Value.ref C :: bm) = pure ()
    rw [refuseLoop_ref, t4]
end
section
variable {X : Cx} {pins : List (Addr × Obj)} {σ : L2.St} {H : Hp} {s : Shared} {a C : Addr} {B Bn newId initN initId : String} {bmB : List Value} {f : PySem.Str}
/-- self.f = y on a new one -/
theorem field_new (T : OwnX X.K C B Bn newId f) (I : Inv X pins σ H s) (e : H a = some (exo a C none)) {y : V} {u : Value} (ry : RelV y u) {Q : Unit → Shared → Prop} {E : Value → Shared → Prop} {A : Around}
    (h : ∀ dx s', H dx = none → dx ≠ a → Inv X pins σ (upd (upd H dx (exd dx [(f, y)])) a (exo a C (some dx))) s' → Q () s') : wpAny (model X.prog X.w) A (setAttr (.ref a) f u) Q E s := by
  obtain ⟨cd, hcl, P⟩ := T.line
  obtain ⟨t1, ho⟩ := exo_at I.hok e
  obtain ⟨hp, g, d, t, os⟩ := s
  refine PySem.W.set_plain I.kIn (ox := { cls := .ref C, dict := none, data := .fields #[.ref t1, .none, .none, .none, .bool false, .none] }) (od := none) ⟨ho, rfl, rfl, trivial⟩ T.sa ?_
  refine osa_new I.kIn ho hcl P T.noF (fun h' tk' dx k dn dne hx hn => ?_)
  have hnd : H dx = none := I.hok.fresh dn
  have nd : ∀ {b : Addr} {o : Obj}, hp.get? b = some o → b ≠ dx := fun {b o} q => Nat.ne_of_lt (Nat.lt_of_lt_of_le (Heap.lt_size q) dn)
  have na : ∀ {b : Addr}, H b = none → b ≠ a := fun {b} n z => by rw [z, e] at n; cases n
  have U : Un X.fs [] H (upd (upd H dx (exd dx [(f, y)])) a (exo a C (some dx))) hp h' := {
    keep := fun b o q n _ _ => k b o (na n) q, slot := fun b o q n _ _ => ⟨o.slots, k b o (na n) q⟩,
    free := fun b o q n _ => by rw [upd_ne (na n), upd_ne (nd q)] <;> exact n,
    there := fun b o q _ => by
      by_cases hb : b = a
      · exact ⟨_, by rw [hb] <;> exact hx⟩
      · exact ⟨o, k b o hb q⟩,
    tups := fun b xs q => by rw [upd_ne (at_ne e q exo_tup), upd_ne (ne_of_none q hnd)] <;> exact q,
    frzs := fun b o v q => by rw [upd_ne (at_ne e q exo_frz), upd_ne (ne_of_none q hnd)] <;> exact q,
    tbls := fun b ps q => ⟨#[], by rw [upd_ne (at_ne e q exo_tbl), upd_ne (ne_of_none q hnd), q] <;> simp⟩ }
  refine h dx _ hnd dne (I.un (t' := tk') U fun b o q => ?_)
  by_cases hb : b = a
  · subst hb; rw [upd_same] at q; cases q; exact exo_ok hx
  · rw [upd_ne hb] at q
    by_cases hd : b = dx
    · subst hd; rw [upd_same] at q; cases q; exact exd_ok hn (relO_put (fs := []) ry fun g => True.intro)
    · rw [upd_ne hd] at q
      exact (I.hok b o q).stay (fun c v hc z => k c v (by
          rcases hc with hc | hc
          · rw [hc] <;> exact hb
          · exact at_ne e hc exo_own) z) (fun c hc => by rw [upd_ne (at_ne e hc exo_own), upd_ne (ne_of_none hc hnd)] <;> exact hc) (fun c xs hc => by rw [upd_ne (at_ne e hc exo_tup), upd_ne (ne_of_none hc hnd)] <;> exact hc)
/-- B.__init__(self, ..) -/
theorem init_new (G : InitF B initId) (T : OwnX X.K C B Bn newId f) (I : Inv X pins σ H s) (e : H a = some (exo a C none)) {us : List Value} {Q : Value → Shared → Prop} (hl : us.length ≤ sizeLine) (h : ∀ s', Inv X pins σ H s' → Q .none s') :
    wpAny (model X.prog X.w) X.A (call (.builtin initId) (.ref a :: us)) Q X.xe s := by
  obtain ⟨nm, q, N, bs, bm, sn, sub, ab, col, dd, k0, k1, k2, k3, k5, hC, t1, t2, t3, t4⟩ := T.cls
  obtain ⟨t1, ho⟩ := exo_at I.hok e
  obtain ⟨hp, g, d, t, os⟩ := s
  refine wpAny_call (base_init G t2 (I.kIn _ _ hC) ho hl fun h' t2 k hx => ?_)
  have J := I.write (t' := t) (x := a) (e := a) (o := exo a C none) (by rw [e] <;> exact True.intro) (.inl rfl) k ⟨_, hx⟩ (exo_ok hx)
  have eu : upd H a (exo a C none) = H := by
    funext b
    by_cases hb : b = a
    · rw [hb, upd_same, e]
    · rw [upd_ne hb]
  rw [eu] at J
  exact h _ J
end
/-- B.__init__(self, ..): what it asks -/
def tInit (K : PySem.W.Frag) (B Bn newId : String) (f : PySem.Str) (ta : TA) : TE := fun σ H Q => ta σ H fun vs H1 => ∃ (a C : Addr) (ws : List V), vs = .ref a :: ws ∧ ws.length ≤ 1000 ∧ OwnX K C B Bn newId f ∧ H1 a = some (exo a C none) ∧ Q .non H1
/-- self.f = e: what it asks -/
def tFirst (K : PySem.W.Frag) (B Bn newId : String) (f : PySem.Str) (to te : TE) : TS := fun D σ H => te σ H fun y H1 => to σ H1 fun x H2 => ∃ a C : Addr, x = .ref a ∧ OwnX K C B Bn newId f ∧ H2 a = some (exo a C none) ∧ ∀ dx, H2 dx = none → dx ≠ a → D.nx σ (upd (upd H2 dx (exd dx [(f, y)])) a (exo a C (some dx)))
section
variable {X : Cx} {B Bn newId initId : String} {f : PySem.Str} {o e : Expr} {es : List Expr} {to te : TE} {ta : TA} {p p' p1 p2 pos : Pos}
theorem pe_binit {x : PySem.Str} {pl : Sem Bool} (G : InitF B initId) (hg : Gl X x) (hm : X.mg x = none) (hv : bootBuiltins x = some (.type B)) (n1 : x ≠ "__name__") (n2 : (x == ("__debug__" : PySem.Str)) = false) (ty : typeOf (.type B) = pure (.type "type")) (nst : Manifest.isStub B = false)
    (vV : PySem.W.findCls X.K (.type B) (.type "type") "__init__" = some (.val (.builtin initId))) (hh : PySem.W.handedIn (.builtin initId) = true) (ha : PA X (e :: es) ta)
    (hc : eval (.Call (.Attribute (.Name x p1) "__init__" p2) (e :: es) [] pos) X.env = (do
      let ov ← eval (.Name x p1) X.env
      standAt p2.atName
      let (f, first) ← holding [ov] (getMethod ov "__init__" pl)
      callWith pos f first (backTo pos (starEach (e :: es) X.env)) (backToKw pos (keywordEach [] X.env))) := by rfl)
    (he : starEach (e :: es) X.env = (false, eval e X.env) :: starEach es X.env := by rfl) (hpl : (backTo pos (starEach es X.env)).any (·.1) = false := by rfl) :
    PE X (.Call (.Attribute (.Name x p1) "__init__" p2) (e :: es) [] pos) (tInit X.K B Bn newId f ta) := by
  refine ⟨fun pins s σ H Q I h => ?_⟩
  refine PySem.W.methodCall_KW (ld_blt I hg hm hv ?_ n1 n2) hc
  obtain ⟨m, fr⟩ := I.fr
  refine PySem.W.method_type fr I.ok.mod.kin ty nst vV hh ?_
  show wpAny _ _ (callWith pos (Value.builtin initId) [] (backTo pos (starEach (e :: es) X.env)) []) _ _ _
  refine PyProof.Rows.callWith_method1 (thn (ha.run pos pins _ σ H _ (I.tok _) h) fun us s1 ⟨vs, H1, I1, r1, a, C, ws, ev, hl, T, ea, q⟩ => ?_) he hpl
  subst ev
  cases r1 with
  | @cons _ u0 _ ur ra rw' =>
    obtain rfl : u0 = Value.ref a := ra
    have hlen : ur.length ≤ sizeLine := by rw [← Paired.length rw', sizeLine_eq]; omega
    exact init_new G T I1 ea hlen fun s' J => ⟨.non, H1, J, rfl, q⟩
theorem ps_first (ho : PE X o to) (he : PE X e te) (hs : swapsWith e (some (.Attribute o f p')) pos.line X.env = pure false := by rfl) : PS X (.Assign [.Attribute o f p'] e pos) (tFirst X.K B Bn newId f to te) := by
  refine ⟨fun pins s σ H D I h => ?_⟩
  refine plainObj_wpAny_Assign_Attribute (thn (he.run pins s σ H _ I h) fun v s1 ⟨y, H1, I1, r1, q1⟩ => thn (ho.run pins s1 σ H1 _ I1 q1) fun u s2 ⟨x, H2, I2, r2, a, C, ex, T, ea, q⟩ => ?_) hs
  subst ex
  obtain rfl : u = Value.ref a := r2
  exact field_new T I2 ea r1 fun dx s' n ne J => ⟨σ, _, J, q dx n ne⟩
end
/-- the promise of such an __init__ -/
def spInit (K : PySem.W.Frag) (B Bn newId : String) (f : PySem.Str) : Sp := fun vs H Q _ => ∃ (a C : Addr) (v : V), vs = [.ref a, v] ∧ OwnX K C B Bn newId f ∧ H a = some (exo a C none) ∧ ∀ d, H d = none → d ≠ a → Q .non (upd (upd H d (exd d [(f, v)])) a (exo a C (some d)))
/-- C(e) -/
theorem pe_exi {X : Cx} {CX : CXT} {x : PySem.Str} {C fI : Addr} {k : Nat} {fd : FuncData} {ps : List PySem.Str} {B Bn newId initN : String} {bmB : List Value} {f : PySem.Str} {e : Expr} {ta : TE} {p pos : Pos} (FB : ExcBaseFacts Bn newId initN bmB) (T : OwnX X.K C B Bn newId f)
    (iC : PySem.W.findIn X.K (.ref C) "__init__" = some (some (.ref fI))) (tI : PySem.W.typeIn X.K (.ref fI) = some (.type "function")) (F1 : FnOk X.prog X.w X.K X.mg X.base CX0 k fI fd ps (spInit X.K B Bn newId f)) (hr : Room (k + 1) X.A) (hb : Binds X.K fd ps [])
    (hg : Gl X x) (hm : X.mg x = some (.ref C)) (ha : PE X e ta) (hdb : (x == ("__debug__" : PySem.Str)) = false := by decide) (he : starEach [e] X.env = (false, eval e X.env) :: starEach [] X.env := by rfl) :
    PE X (.Call (.Name x p) [e] [] pos) (fun σ H Q => ta σ H fun v H1 => ∀ a d, H1 a = none → H1 d = none → d ≠ a → Q (.ref a) (upd (upd H1 d (exd d [(f, v)])) a (exo a C (some d)))) := by
  refine ⟨fun pins s σ H Q I h => ?_⟩
  obtain ⟨nm, q, N, bs, bm, sn, sub, ab, col, dd, k0, k1, k2, k3, k5, hC, t1, t2, t3, t4⟩ := T.cls
  refine wpAny_Call_Name_kw (ld_glob I hg hm ?_ hdb)
  refine PySem.W.callWith_K (h₀ := X.base) I.ok.mod.kin T.kC ?_ he (by rfl)
  rw [he]
  show wpAny _ _ (spliced ((false, eval e X.env) :: backTo pos (starEach [] X.env))) _ _ s
  refine Calls.spliced_cons (thn (ha.run pins s σ H _ I h) fun u s1 ⟨v, H1, I1, r1, q1⟩ => ?_)
  refine Calls.spliced_nil ⟨I1.kIn, ?_⟩
  show wpAny _ _ (call (.ref C) [u]) _ _ _
  obtain ⟨hp, g, dr, tk, os⟩ := s1
  have hsz : hp.objs.size ≤ hp.objs.size + 1 := Nat.le_succ _
  have hn : H1 (hp.objs.size + 1) = none := I1.hok.fresh hsz
  have kk : ∀ b o, hp.get? b = some o → ((hp.push (PySem.W.kdv_tup [u])).push (PySem.HandSPX.excO C hp.objs.size)).get? b = some o := fun b o e => Heap.get?_push_of_some _ (Heap.get?_push_of_some _ e)
  have hget : ((hp.push (PySem.W.kdv_tup [u])).push (PySem.HandSPX.excO C hp.objs.size)).get? (hp.objs.size + 1) = some (PySem.HandSPX.excO C hp.objs.size) := by heap_get
  have I2 : Inv X pins σ (upd H1 (hp.objs.size + 1) (exo (hp.objs.size + 1) C none)) ⟨(hp.push (PySem.W.kdv_tup [u])).push (PySem.HandSPX.excO C hp.objs.size), g, dr, tk, os⟩ := I1.laid (t' := tk) kk hsz (exo_ok hget)
  have r2 : Vals [V.ref (hp.objs.size + 1), v] [Value.ref (hp.objs.size + 1), u] := .cons rfl (.cons r1 .nil)
  have hq : spInit X.K B Bn newId f [.ref (hp.objs.size + 1), v] (upd H1 (hp.objs.size + 1) (exo (hp.objs.size + 1) C none)) (fun z H2 => z = .non ∧ ∃ d, H1 d = none ∧ d ≠ hp.objs.size + 1 ∧ H2 = upd (upd H1 d (exd d [(f, v)])) (hp.objs.size + 1) (exo (hp.objs.size + 1) C (some d))) E0 := by
    refine ⟨_, C, v, rfl, T, upd_same, fun d hd hne => ⟨rfl, d, by rw [upd_ne hne] at hd; exact hd, hne, ?_⟩⟩
    funext b
    by_cases hb : b = hp.objs.size + 1
    · rw [hb, upd_same, upd_same]
    · rw [upd_ne hb, upd_ne hb]
      by_cases hbd : b = d
      · rw [hbd, upd_same, upd_same]
      · rw [upd_ne hbd, upd_ne hbd, upd_ne hb]
  have hl : ([Value.ref (hp.objs.size + 1), u] ++ []).length = ps.length := by have z := F1.len _ _ _ _ hq; exact z
  refine wpAny_call (call_ex FB t1 (I1.kIn _ _ hC) (PySem.W.looks_findIn I1.kIn iC) (fun self => PySem.W.bind_fn I1.kIn self tI) (by show 1 ≤ sizeLine; rw [sizeLine_eq]; omega)
    (codeAny_mono (F1.run _ X.stack _ _ ⟨[Value.ref (hp.objs.size + 1), u], []⟩ [Value.ref (hp.objs.size + 1), u] _ _ (fun _ _ _ => False) (hr.make C [u] []) (I2.env0.make C [u] []) (by simpa using hb _ [Value.ref (hp.objs.size + 1), u] I2.kIn hl) r2 hq) fun r s' hq' => ?_))
  cases r with
  | error er => exact hq'.elim
  | ok fl =>
    cases fl with
    | ret w =>
      obtain ⟨z, H2, os2, bare2, un2, hok2, rz, ez, d, hd, hne, eH⟩ := hq'
      subst ez eH
      exact ⟨rz, ⟨.ref (hp.objs.size + 1), _, I2.call' (ch := []) os2 un2 hok2 bare2 (fun b z => absurd z (by simp)), rfl, q1 _ d hn hd hne⟩⟩
    | next => exact False.elim hq'
    | brk => exact False.elim hq'
    | cont => exact False.elim hq'
end K0
/-! repr of a list of kept values; defs that run where no repr is under way; a text times a number; a power of a great number. -/
namespace K0
open PySem PySem.Spec PyProof.Rows L2

/-- texts that are kept: few signs, each a sign -/
def Few (x : PySem.Str) : Prop := x.length ≤ 600 ∧ ∀ c ∈ x.cps.toList, c < 16 ^ 8
/-- a value that an error may keep, and how it reads -/
inductive Kp (H : Hp) : V → PyData → Prop
  | non : Kp H .non .none
  | bl (b : Bool) : Kp H (.bl b) (.bool b)
  | int (i : Int) (h : i.natAbs.log2 < 90) : Kp H (.int i) (.int i)
  | str (x : PySem.Str) (h : Few x) : Kp H (.str x) (.str x)
  | tup {a : Addr} {n : Int} {x : PySem.Str} (e : H a = some (.tup [.int n, .str x])) (h : n.natAbs.log2 < 90) (hx : Few x) : Kp H (.ref a) (.tuple [.int n, .str x])
  | lst {a : Addr} {n : Int} (e : H a = some (.lst [.int n])) (h : n.natAbs.log2 < 90) : Kp H (.ref a) (.list [.int n])
  | dic {a : Addr} {n : Int} {x : PySem.Str} (e : H a = some (.dK [(Sum.inl n, .str x)])) (h : n.natAbs.log2 < 90) (hx : Few x) : Kp H (.ref a) (.dict [(.int n, .str x)])
theorem Kp.same {H H' : Hp} {v : V} {d : PyData} (h : Kp H v d) (s : Same H H') : Kp H' v d := by
  cases h with
  | non => exact .non
  | bl b => exact .bl b
  | int i h => exact .int i h
  | str x h => exact .str x h
  | tup e h hx => exact .tup (s _ _ e) h hx
  | lst e h => exact .lst (s _ _ e) h
  | dic e h hx => exact .dic (s _ _ e) h hx
theorem short_int {i : Int} (h : i.natAbs.log2 < 90) : (PyData.shown (.int i)).length ≤ 91 := by
  have z := int_text_length_le (by decide) h
  show (PySem.Str.ofString (toString i)).length ≤ 91
  rw [PySem.ofString_length]
  omega
theorem leaf_str {x : PySem.Str} (h : Few x) : (x.cps.toList.all fun c => decide (c < 16 ^ 8)) = true := List.all_eq_true.mpr fun c hc => decide_eq_true (h.2 c hc)
theorem int_weight {i : Int} (h : i.natAbs.log2 < 90) : (PyData.int i).weight ≤ 90 := by
  show (if i == 0 then 0 else i.natAbs.log2 + 1) ≤ 90
  split <;> omega
theorem str_weight {x : PySem.Str} (h : Few x) : (PyData.str x).weight ≤ 600 := h.1
theorem Kp.facts {H : Hp} {v : V} {d : PyData} (h : Kp H v d) : d.showable = true ∧ d.leavesShort 91 = true ∧ d.weight ≤ 700 ∧ d.depth ≤ 3 := by
  have sh : ∀ {i : Int}, i.natAbs.log2 < 90 → (PyData.int i).showable = true := fun {i} h => by simp only [PyData.showable]; exact decide_eq_true (by omega)
  have sl : ∀ {i : Int}, i.natAbs.log2 < 90 → (PyData.int i).leavesShort 91 = true := fun {i} h => by simp only [PyData.leavesShort]; exact decide_eq_true (short_int h)
  have ss : ∀ {x : PySem.Str}, Few x → (PyData.str x).leavesShort 91 = true := fun {x} h => by simp only [PyData.leavesShort]; exact leaf_str h
  have sv : ∀ {x : PySem.Str}, (PyData.str x).showable = true := fun {x} => by simp only [PyData.showable]
  cases h with
  | non => exact ⟨rfl, by decide +kernel, by decide +kernel, by decide +kernel⟩
  | bl b => cases b <;> exact ⟨rfl, by decide +kernel, by decide +kernel, by decide +kernel⟩
  | int i h => exact ⟨sh h, sl h, Nat.le_trans (int_weight h) (by decide), by simp [PyData.depth]⟩
  | str x h => exact ⟨sv, ss h, Nat.le_trans (str_weight h) (by decide), by simp [PyData.depth]⟩
  | @tup a n x e h hx =>
    have w1 := int_weight h; have w2 := str_weight hx
    refine ⟨by simp only [PyData.showable, PyData.showableAll, Bool.and_true]; exact decide_eq_true (by omega), ?_, ?_, by simp [PyData.depth, PyData.depthAll]⟩
    · have a1 := sl h; have a2 := ss hx
      simp only [PyData.leavesShort, PyData.leavesShortAll, Bool.and_true] at a1 a2 ⊢
      rw [a1, a2] <;> rfl
    · show (PyData.int n).weight + 1 + ((PyData.str x).weight + 1 + 0) ≤ 700
      omega
  | @lst a n e h =>
    have w1 := int_weight h
    refine ⟨by simp only [PyData.showable, PyData.showableAll, Bool.and_true]; exact decide_eq_true (by omega), ?_, ?_, by simp [PyData.depth, PyData.depthAll]⟩
    · have a1 := sl h
      simp only [PyData.leavesShort, PyData.leavesShortAll, Bool.and_true] at a1 ⊢
      exact a1
    · show (PyData.int n).weight + 1 + 0 ≤ 700
      omega
  | @dic a n x e h hx =>
    have w1 := int_weight h; have w2 := str_weight hx
    refine ⟨by simp only [PyData.showable, PyData.showableKv, Bool.and_true]; exact decide_eq_true (by omega), ?_, ?_, by simp [PyData.depth, PyData.depthKv]⟩
    · have a1 := sl h; have a2 := ss hx
      simp only [PyData.leavesShort, PyData.leavesShortKv, Bool.and_true] at a1 a2 ⊢
      rw [a1, a2] <;> rfl
    · show (PyData.int n).weight + (PyData.str x).weight + 2 + 0 ≤ 700
      omega
inductive KpAll (H : Hp) : List V → List PyData → Prop
  | nil : KpAll H [] []
  | cons {v : V} {vs : List V} {d : PyData} {ds : List PyData} : Kp H v d → KpAll H vs ds → KpAll H (v :: vs) (d :: ds)
theorem KpAll.facts {H : Hp} : ∀ {vs : List V} {ds : List PyData}, KpAll H vs ds → PyData.showableAll ds = true ∧ PyData.leavesShortAll 91 ds = true ∧ PyData.weightAll ds ≤ 701 * ds.length ∧ PyData.depthAll ds ≤ 3
  | _, _, .nil => ⟨rfl, rfl, by simp [PyData.weightAll], by simp [PyData.depthAll]⟩
  | _, _, .cons h t => by
    obtain ⟨a1, a2, a3, a4⟩ := h.facts
    obtain ⟨b1, b2, b3, b4⟩ := t.facts
    refine ⟨by simp [PyData.showableAll, a1, b1], by simp [PyData.leavesShortAll, a2, b2], ?_, ?_⟩
    · simp only [PyData.weightAll, List.length_cons]; omega
    · simp only [PyData.depthAll]; omega
section
variable {X : Cx} {pins : List (Addr × Obj)} {σ : L2.St} {H : Hp} {s : Shared}
theorem Kp.reads (I : Inv X pins σ H s) {v : V} {u : Value} {d : PyData} (h : Kp H v d) (r : RelV v u) : ∃ as, Reads s.heap u d as ∧ (d.hasDict = true → sysModules ∉ as) := by
  cases h with
  | non => cases r; exact ⟨_, .none, fun _ => by simp⟩
  | bl b => cases r; exact ⟨_, .bool b, fun _ => by simp⟩
  | int i h => obtain ⟨t, rfl⟩ := r; exact ⟨_, .int i t, fun _ => by simp⟩
  | str x h => obtain ⟨t, rfl⟩ := r; exact ⟨_, .str x t, fun _ => by simp⟩
  | tup e h hx =>
    cases r
    obtain ⟨its, rv, ⟨o, ho, hc, n, hd⟩, _⟩ := I.tuple (SqT.of e)
    cases rv with
    | cons r1 t1 => cases t1 with
      | cons r2 t2 =>
        cases t2
        obtain ⟨t, rfl⟩ := r1; obtain ⟨t', rfl⟩ := r2
        exact ⟨_, .tuple ho hc hd (.cons (.int _ t) (.cons (.str _ t') .nil)), fun _ => by simp⟩
  | lst e h =>
    cases r
    obtain ⟨its, rv, ⟨o, n, ho, hc, _, hd⟩, _⟩ := I.list (SqL.of e)
    cases rv with
    | cons r1 t1 =>
      cases t1
      obtain ⟨t, rfl⟩ := r1
      exact ⟨_, .list ho hc hd (.cons (.int _ t) .nil), PyData.noDict_hsm (by simp [PyData.hasDict, PyData.hasDictAll])⟩
  | dic e h hx =>
    cases r
    obtain ⟨_, hs, vs, kv, o, es, ep, ho, hx2, hd, _, hp, _⟩ := (show ObjOk X.prog X.w H s.heap _ (.dK _) from I.hok _ _ e)
    cases kv with
    | @cons _ q _ _ hkv t1 =>
      cases t1
      obtain ⟨hk, hv⟩ := hkv
      obtain ⟨k0, v0⟩ := q
      dsimp only at hk hv
      subst hk
      obtain ⟨t', rfl⟩ := hv
      obtain ⟨es⟩ := es
      cases hp with
      | @cons en _ _ _ h1 h2 h3 =>
        cases h3
        obtain ⟨t, et⟩ := Value.isInt_shape (k := _) (v := en.key) h1
        have ev : en.val = Value.str _ t' := h2
        refine ⟨_, Reads.dict (as := [] ++ []) (bs := [] ++ []) ho hx2.1 hd ?_ ?_, fun _ => by simpa using (beq_eq_false_iff_ne.mp hs).symm⟩
        · show ReadsAll _ [en.key] _ _
          rw [et]
          exact .cons (.int _ t) .nil
        · show ReadsAll _ [en.val] _ _
          rw [ev]
          exact .cons (.str _ t') .nil
theorem Kp.fits {H : Hp} {v : V} {d : PyData} (h : Kp H v d) : d.shown.length ≤ 70000 := by
  obtain ⟨_, f2, f3, _⟩ := h.facts
  have z := PyData.shown_le 91 (by decide) d f2
  have : (91 + 2) * d.weight ≤ (91 + 2) * 700 := Nat.mul_le_mul_left _ f3
  omega
/-- the items' texts -/
theorem KpAll.reads {prog : Program} {w : World} (I : Inv X pins σ H s) : ∀ {vs : List V} {ds : List PyData} {us : List Value}, KpAll H vs ds → Vals vs us →
    ∃ as bs, ReadsAll s.heap us ds as ∧ ReadAtMost s.heap (PyData.depthAll ds) bs ∧ ReprAllK prog w bs s.heap (PyData.depthAll ds) us (PyData.shownAll ds)
  | _, _, _, .nil, .nil => ⟨_, [], .nil, (fun _ h => nomatch h), by simp only [PyData.shownAll]; exact .nil⟩
  | _, _, _, .cons (d := d) (ds := ds) h t, .cons r1 r2 => by
    obtain ⟨as, q1, n1⟩ := h.reads I r1
    obtain ⟨cs, b2, q2, hb2, k2⟩ := KpAll.reads (prog := prog) (w := w) I t r2
    obtain ⟨b1, hb1, k1⟩ := ReprK.of_reads (prog := prog) (w := w) q1 h.facts.1 n1 (by have z := h.fits; rw [sizeLine_eq]; omega)
    refine ⟨_, b1 ++ b2, .cons q1 q2, fun b hm => ?_, ?_⟩
    · simp only [PyData.depthAll]
      rcases List.mem_append.mp hm with hm | hm
      · obtain ⟨d', as', r', hd'⟩ := hb1 b hm; exact ⟨d', as', r', Nat.le_trans hd' (Nat.le_max_left _ _)⟩
      · obtain ⟨d', as', r', hd'⟩ := hb2 b hm; exact ⟨d', as', r', Nat.le_trans hd' (Nat.le_max_right _ _)⟩
    · simp only [PyData.depthAll, PyData.shownAll]
      exact .cons ((k1.more fun b hb => List.mem_append_left _ hb).level_le (Nat.le_max_left _ _)) (k2.more_le (fun b hb => List.mem_append_right _ hb) (Nat.le_max_right _ _))
end
def rRepr : List V → Hp → VK → Prop := fun xs H Q => ∃ (l : Addr) (v : V) (vs : List V) (ds : List PyData), xs = [.ref l] ∧ H l = some (.lst (v :: vs)) ∧ KpAll H (v :: vs) ds ∧ ds.length ≤ 100 ∧ Q (.str (PyData.list ds).shown) H
theorem call_repr {X : Cx} {k : Nat} (hg : X.A.guards = some []) (hr : Room k X.A) : CallR X (.builtin "repr") rRepr := by
  intro pins s σ H xs us Q I r h
  obtain ⟨l, v, vs, ds, rfl, hl, hk, hz, q⟩ := h
  obtain ⟨u, rfl, ru⟩ := vals1 r
  obtain rfl : u = Value.ref l := ru
  obtain ⟨its, rv, ⟨o, n, ho, hc, _, hd⟩, _⟩ := I.list (SqL.of hl)
  obtain ⟨as, bs, hr', hb, hkk⟩ := hk.reads (prog := X.prog) (w := X.w) I rv
  obtain ⟨f1, f2, f3, f4⟩ := hk.facts
  have hu := hr.units
  have hsz : (PyData.list ds).shown.length ≤ sizeLine := by
    have z := PyData.shown_le 91 (by decide) (.list ds) (by simpa [PyData.leavesShort] using f2)
    have w1 : (PyData.list ds).weight ≤ 701 * ds.length := by simp only [PyData.weight]; omega
    rw [sizeLine_eq]
    have : (91 + 2) * (PyData.list ds).weight ≤ (91 + 2) * 70100 := Nat.mul_le_mul_left _ (by omega)
    omega
  have hsz' : (listText (PyData.shownAll ds)).length ≤ sizeLine := by simpa only [PyData.shown] using hsz
  have rr : Reads s.heap (.ref l) (.list ds) _ := Reads.list ho hc hd hr'
  have hna : l ∉ bs := not_mem_of_deeper rr (by simp only [PyData.depth]; omega) hb
  cases rv with
  | cons r1 r2 =>
    have hlen := hkk.length_eq
    refine call_repr_slot (by omega) (⟨o, ho, hc⟩ : s.TypeIs (.ref l) "list") F.slot_list_repr.toG (call_list_reprK (h₀ := s.heap) ho hc hd hna (by simpa using hlen) (fun i y e => hkk.item i y (by simpa using e)) (A := X.A.in1) hg (fun b _ => Clear.nil b)
      (by show X.A.units + 1 + (PyData.depthAll ds + 1) < cLine; omega) (fun _ _ e => e) (fun h' u tk hk' => ⟨_, _, rfl, .str (PyData.list ds).shown, H, I.kept (t' := tk) hk', ⟨u, ?_⟩, q⟩) hsz')
    simp only [PyData.shown]

/-! ### a def that is called where no repr is under way -/
structure FnG (P : Program) (w : World) (K : PySem.W.Frag) (mg : PySem.Str → Option Value) (base : Heap) (k : Nat) (f : Addr) (fd : FuncData) (ps : List PySem.Str) (sp : Sp) : Prop where
  len : ∀ vs H Q E, sp vs H Q E → vs.length = ps.length
  run : ∀ (A : Around) (outer : List Env) (s : Shared) (H : Hp) (args : Args) (us : List Value) (vs : List V) (Q : VK) (E : XK), A.guards = some [] → Room k A → Env0 P w K mg base A outer s H → BindsTo s fd args (ps.zip us) → Vals vs us → sp vs H Q E →
    codeAny (model P w) A (.call (.ref f) args) (CR CX0 outer P w H s Q E) s
theorem fng_of {P : Program} {w : World} {K : PySem.W.Frag} {mg : PySem.Str → Option Value} {base : Heap} {k : Nat} {f : Addr} {x qual : PySem.Str} {st : Stmt} {fd : FuncData} {N ps : List PySem.Str} {sp : Sp} (F : Fun K x qual st f fd) (S : FnScope N ps (defScope st)) (len : ∀ vs H Q E, sp vs H Q E → vs.length = ps.length)
    (hbody : ∀ (cdv : Value) (A : Around) (outer : List Env) (s : Shared) (H : Hp) (vs : List V) (Q : VK) (E : XK), A.guards = some [] → Room k (A.deeper (envOfC qual (defScope st) s.heap.objs.size f cdv)) → sp vs H Q E →
      ∃ t, PSs (cxOf CX0 P w K mg base N qual (defScope st) f cdv A outer s H E).nox (defBody st) t ∧ t { nx := fun _ H' => Q .non H', rt := Q } (start N vs) H) : FnG P w K mg base (k + 1) f fd ps sp := by
  obtain ⟨oc, od, kV, doc, pm, an, cdv, ct, osl, rfl, lk, hcd⟩ := F.ex
  refine ⟨len, fun A outer s H args us vs Q E hg hr e0 hb r hsp => ?_⟩
  have hl := len _ _ _ _ hsp
  have KX : K.In s.heap := e0.mod.kin.keeps fun b o e => (e0.bs b o e).1
  have lim : s.heap.NoLimit := e0.mod.nolimit.keeps fun b o e => (e0.bs b o e).1
  have hkind : ∀ y ∈ ps.zip us, (defScope st).names.lookup y.1 = some .local ∨ ((defScope st).names.lookup y.1 = some .cell ∧ ((cellsFrom (s.heap.objs.size + 1) (defScope st).names []).lookup y.1).isSome = true) := fun ⟨n, v⟩ hy => by
    rcases S.par n (List.of_mem_zip hy).1 with q | q
    · exact .inl q
    · exact .inr ⟨q, PySem.W.cellsFrom_some _ _ _ (.inl q)⟩
  refine codeAny_call_function hr.depth (KX _ _ lk) rfl S.co S.gen rfl (PySem.W.codeRec_of KX hcd) (hb _ _ _ _ ?_)
  refine wpAny_newFunctionEnv_cells S.kind hkind fun env he s1 x => ?_
  subst he
  refine ⟨lim.keeps x.toInCall.keep, codeAny_func ?_⟩
  obtain ⟨t, ht0, hq⟩ := hbody cdv A outer s H vs Q E hg (hr.deeper _) hsp
  have ht := ht0.nox
  have I : Inv (cxOf CX0 P w K mg base N qual (defScope st) f cdv A outer s H E) [] (start N vs) H s1 := inv_start S hr.hd e0 hl r x
  refine wpAny_mono (ht.run [] s1 (start N vs) H _ I hq) (fun fl s' hs => ?_) fun e s' hs => hs
  have fin : ∀ {σ' : L2.St} {H' : Hp} {v : V} {u : Value}, Inv (cxOf CX0 P w K mg base N qual (defScope st) f cdv A outer s H E) [] σ' H' s' → RelV v u → Q v H' → CE outer P w H s Q u s' := fun {σ' H' v u} J rv q => ⟨v, H', J.os, J.bare, J.base, J.hok, rv, q⟩
  cases fl with
  | ret u => obtain ⟨v, σ', H', J, rv, q⟩ := hs; exact fin J rv q
  | next => obtain ⟨σ', H', J, q⟩ := hs; exact fin (v := V.non) (u := Value.none) J rfl q
  | brk => obtain ⟨_, _, _, q⟩ := hs; exact False.elim q
  | cont => obtain ⟨_, _, _, q⟩ := hs; exact False.elim q
/-- f(e, ..) of such a def -/
theorem pe_callG {X : Cx} {x : PySem.Str} {f : Addr} {k : Nat} {fd : FuncData} {ps : List PySem.Str} {sp : Sp} {e : Expr} {es : List Expr} {t : TA} {p pos : Pos} (F : FnG X.prog X.w X.K X.mg X.base k f fd ps sp) (hgd : X.A.guards = some []) (hr : Room k X.A) (hg : Gl X x) (hm : X.mg x = some (.ref f)) (hk : PySem.W.keepIn X.K (.ref f) = true) (hb : Binds X.K fd ps [])
    (ha : PA X (e :: es) t) (hdb : (x == ("__debug__" : PySem.Str)) = false := by decide) (he : starEach (e :: es) X.env = (false, eval e X.env) :: starEach es X.env := by rfl) (hpl : (backTo pos (starEach es X.env)).any (·.1) = false := by rfl) :
    PE X (.Call (.Name x p) (e :: es) [] pos) (fun σ H Q => t σ H fun vs H1 => sp vs H1 Q E0) := by
  refine ⟨fun pins s σ H Q I h => ?_⟩
  refine wpAny_Call_Name_kw (ld_glob I hg hm ?_ hdb)
  refine PySem.W.callWith_K (h₀ := X.base) I.ok.mod.kin hk (thn (ha.run pos pins s σ H _ I h) fun us s1 ⟨vs, H1, I1, r, q⟩ => ⟨I1.kIn, ?_⟩) he hpl
  have hl : us.length = ps.length := by rw [← r.length]; exact F.len _ _ _ _ q
  refine wpAny_call (codeAny_mono (F.run X.A X.stack s1 H1 ⟨us, []⟩ us vs Q E0 hgd hr I1.env0 (by simpa using hb s1 us I1.kIn (by simpa using hl)) r q) fun r s' hq => ?_)
  cases r with
  | error e => exact hq.elim
  | ok fl =>
    cases fl with
    | ret u => exact I1.after hq
    | next => exact False.elim hq
    | brk => exact False.elim hq
    | cont => exact False.elim hq

/-! ### numbers -/
section
variable {X : Cx}
theorem op_powX : OpR X (binaryOp .Pow) (rI (fun i j => 0 ≤ j ∧ (Builtin.Int.intBits i : Int) * j ≤ 2 ^ 27) fun i j => .int (i ^ j.toNat)) := opI fun _ _ _ _ _ _ _ hc q => pow_int hc.1 hc.2 q
/-- a text of one sign or more, a number of times -/
def rTimes : R2 := fun x y H Q => ∃ (z : PySem.Str) (n : Int), x = .str z ∧ y = .int n ∧ 0 ≤ n ∧ n ≤ 1000 ∧ z.length ≤ 1000 ∧ ∀ o : PySem.Str, o.length ≤ z.length * n.toNat → (∀ c ∈ o.cps.toList, c ∈ z.cps.toList) → Q (.str o) H
theorem foldl_rep (z : Array Nat) : ∀ (n : Nat) (acc : Array Nat), ((List.replicate n z).foldl (· ++ ·) acc).size = acc.size + n * z.size ∧ ∀ c ∈ ((List.replicate n z).foldl (· ++ ·) acc).toList, c ∈ acc.toList ∨ c ∈ z.toList
  | 0, acc => ⟨by simp, fun c h => .inl (by simpa using h)⟩
  | n + 1, acc => by
    obtain ⟨h1, h2⟩ := foldl_rep z n (acc ++ z)
    rw [List.replicate_succ, List.foldl_cons]
    refine ⟨by rw [h1, Array.size_append, Nat.succ_mul]; omega, fun c h => ?_⟩
    rcases h2 c h with q | q
    · rw [Array.toList_append, List.mem_append] at q; exact q
    · exact .inr q
theorem op_times : OpR X (binaryOp .Mult) rTimes := by
  intro pins s σ H x y v u Q I rx ry h
  obtain ⟨z, n, rfl, rfl, h0, h1, hz, q⟩ := h
  obtain ⟨t, rfl⟩ := rx
  obtain ⟨t', rfl⟩ := ry
  have hmul : z.length * n.toNat ≤ 1000 * 1000 := Nat.mul_le_mul hz (by omega)
  refine PySem.P.mul_str (by rw [decide_eq_false (by omega), decide_eq_false (by omega)] <;> rfl) (fun a b => ?_) (fun a b => ?_) ?_
  · have : (1000 : Int) ≤ (2 ^ 63 - 1) / n := by
      rw [Int.le_ediv_iff_mul_le (by omega)]
      have : 1000 * n ≤ 1000 * 1000 := by omega
      omega
    omega
  · refine decide_eq_false ?_
    rw [sizeLine_eq]; omega
  · split
    · rename_i hlt
      refine ⟨by decide, ?_⟩
      exact ⟨.str PySem.Str.empty, H, I.tok _, ⟨_, rfl⟩, q _ (Nat.zero_le _) (fun c hc => by cases hc)⟩
    · split
      · rename_i hge heq
        refine ⟨.str z, H, I, ⟨_, rfl⟩, q _ ?_ (fun c hc => hc)⟩
        rcases Nat.lt_or_ge 0 n.toNat with hp | hp
        · exact Nat.le_mul_of_pos_right _ hp
        · omega
      · obtain ⟨f1, f2⟩ := foldl_rep z.cps n.toNat #[]
        refine ⟨?_, ?_⟩
        · show ((List.replicate n.toNat z.cps).foldl (· ++ ·) #[]).size ≤ sizeLine
          rw [f1, sizeLine_eq]
          have : n.toNat * z.cps.size ≤ 1000 * 1000 := Nat.mul_le_mul (by omega) hz
          simp; omega
        · refine ⟨.str _, H, I.tok _, ⟨_, rfl⟩, q _ ?_ (fun c hc => ?_)⟩
          · show ((List.replicate n.toNat z.cps).foldl (· ++ ·) #[]).size ≤ z.cps.size * n.toNat
            rw [f1, Nat.mul_comm]; simp
          · rcases f2 c hc with e | e
            · cases e
            · exact e
end
end K0
/-! The names in their order: of one letter, of two. -/
namespace K1
open PySem PySem.Spec PyProof.Rows L2

/-- the letters of the name whose number is left - 1, ahead of acc -/
def go : Nat → Nat → List Nat → List Nat
  | 0, _, acc => acc
  | _ + 1, 0, acc => acc
  | f + 1, left + 1, acc => go f (left / 26) ((97 + left % 26) :: acc)
theorem go_fuel : ∀ (f g left : Nat) (acc : List Nat), left ≤ f → left ≤ g → go f left acc = go g left acc
  | 0, 0, _, _, _, _ => rfl
  | 0, g + 1, left, acc, h, _ => by
    obtain rfl : left = 0 := by omega
    rfl
  | f + 1, 0, left, acc, _, h => by
    obtain rfl : left = 0 := by omega
    rfl
  | f + 1, g + 1, 0, acc, _, _ => rfl
  | f + 1, g + 1, left + 1, acc, h1, h2 => by
    show go f (left / 26) _ = go g (left / 26) _
    exact go_fuel f g _ _ (by omega) (by omega)
def nmL (n : Nat) : List Nat := go (n + 1) (n + 1) []
def nmS (n : Nat) : PySem.Str := ⟨(nmL n).toArray⟩
def alpha : PySem.Str := "abcdefghijklmnopqrstuvwxyz"
/-- the number of a name of one or two letters -/
def dec : List Nat → Nat
  | [a] => a - 97
  | [a, b] => 26 * (a - 96) + (b - 97)
  | _ => 0
theorem dec_nm {k : Nat} (h : k < 702) : dec (nmS k).cps.toList = k := by
  have z : ((List.range 702).all fun k => dec (nmL k) == k) = true := by decide +kernel
  have := List.all_eq_true.mp z k (List.mem_range.mpr h)
  show dec (nmL k).toArray.toList = k
  simpa using this
theorem nm_inj {j k : Nat} (hj : j < 702) (hk : k < 702) (h : nmS j = nmS k) : j = k := by
  rw [← dec_nm hj, ← dec_nm hk, h]
def first (bar : List PySem.Str) (k : Nat) : List PySem.Str := ((List.range k).map nmS).filter fun x => decide (x ∉ bar)
theorem first_zero (bar : List PySem.Str) : first bar 0 = [] := rfl
theorem first_succ (bar : List PySem.Str) (k : Nat) : first bar (k + 1) = first bar k ++ if nmS k ∈ bar then [] else [nmS k] := by
  unfold first
  rw [List.range_succ, List.map_append, List.filter_append]
  congr 1
  by_cases h : nmS k ∈ bar
  · rw [if_pos h]; simp [h]
  · rw [if_neg h]; simp [h]
theorem first_add (bar : List PySem.Str) (k j : Nat) : ∃ r, first bar (k + j) = first bar k ++ r := by
  induction j with
  | zero => exact ⟨[], by simp⟩
  | succ j ih =>
    obtain ⟨r, e⟩ := ih
    exact ⟨_, by rw [← Nat.add_assoc, first_succ, e, List.append_assoc]⟩
/-- a list without equal things all of which are in another is no longer than that -/
theorem nodup_sub {α : Type} [DecidableEq α] : ∀ {l m : List α}, l.Nodup → (∀ x ∈ l, x ∈ m) → l.length ≤ m.length
  | [], _, _, _ => Nat.zero_le _
  | a :: l, m, hn, hs => by
    have ha : a ∈ m := hs a (by simp)
    have hn' := List.nodup_cons.mp hn
    have := nodup_sub (l := l) (m := m.erase a) hn'.2 fun x hx => (List.mem_erase_of_ne (fun e : x = a => hn'.1 (by rw [← e] <;> exact hx))).mpr (hs x (by simp [hx]))
    rw [List.length_erase_of_mem ha] at this
    have hp : 0 < m.length := List.length_pos_of_mem ha
    simp only [List.length_cons]; omega
theorem filter_not_len {α : Type} (p : α → Bool) : ∀ l : List α, (l.filter p).length + (l.filter fun x => !p x).length = l.length
  | [] => rfl
  | a :: l => by
    have := filter_not_len p l
    cases h : p a <;> simp [h] <;> omega
theorem nms_nodup : ((List.range 702).map nmS).Nodup := by
  show List.Pairwise (· ≠ ·) _
  rw [List.pairwise_map]
  have h : (List.range 702).Pairwise (· ≠ ·) := List.nodup_range
  refine List.Pairwise.imp_of_mem (fun {a b} ha hb hne e => hne (nm_inj (List.mem_range.mp ha) (List.mem_range.mp hb) e)) h
theorem first_long (bar : List PySem.Str) : 702 ≤ (first bar 702).length + bar.length := by
  have e := filter_not_len (fun x => decide (x ∉ bar)) ((List.range 702).map nmS)
  have hb : ((((List.range 702).map nmS).filter fun x => !decide (x ∉ bar))).length ≤ bar.length := by
    refine nodup_sub (nms_nodup.sublist List.filter_sublist) fun x hx => ?_
    have := (List.mem_filter.mp hx).2
    simpa using this
  have hl : ((List.range 702).map nmS).length = 702 := by simp
  rw [hl] at e
  unfold first
  omega
theorem first_mono (bar : List PySem.Str) {k j : Nat} (h : k ≤ j) : (first bar k).length ≤ (first bar j).length := by
  obtain ⟨r, e⟩ := first_add bar k (j - k)
  rw [show k + (j - k) = j by omega] at e
  rw [e, List.length_append]; omega
/-- the first so many -/
def due (bar : List PySem.Str) (m : Nat) : List PySem.Str := (first bar 702).take m
theorem due_of {bar : List PySem.Str} {m k : Nat} (hk : k ≤ 702) (h : (first bar k).length = m) : first bar k = due bar m := by
  obtain ⟨r, e⟩ := first_add bar k (702 - k)
  rw [show k + (702 - k) = 702 by omega] at e
  unfold due
  rw [e, ← h, List.take_left]
theorem due_from {bar : List PySem.Str} {m k : Nat} (hk : k ≤ 702) (h : m ≤ (first bar k).length) : (first bar k).take m = due bar m := by
  obtain ⟨r, e⟩ := first_add bar k (702 - k)
  rw [show k + (702 - k) = 702 by omega] at e
  unfold due
  rw [e, List.take_append_of_le_length h]
/-- one sign -/
def sg (c : Nat) : PySem.Str := ⟨#[c]⟩
def longer (ls : List PySem.Str) : List PySem.Str := ls.flatMap fun l => (List.range 26).map fun i => (⟨l.cps ++ #[97 + i]⟩ : PySem.Str)
theorem longer_one : longer [⟨#[]⟩] = (List.range 26).map nmS := by decide +kernel
theorem longer_two : longer ((List.range 26).map nmS) = ((List.range 676).map fun i => nmS (26 + i)) := by decide +kernel
theorem first_26 (bar : List PySem.Str) : first bar 26 = ((List.range 26).map nmS).filter fun x => decide (x ∉ bar) := rfl
theorem first_702 (bar : List PySem.Str) : first bar 702 = first bar 26 ++ ((List.range 676).map fun i => nmS (26 + i)).filter fun x => decide (x ∉ bar) := by
  unfold first
  rw [← List.filter_append, show (702 : Nat) = 26 + 676 from rfl, List.range_add, List.map_append, List.map_map] <;> rfl
end K1
/-! What a name is: by the program's way and by another. -/
namespace K1
open PySem PySem.Spec PyProof.Rows L2

def low (c : Nat) : Bool := decide (97 ≤ c) && decide (c ≤ 122)
def nm (x : PySem.Str) : Bool := decide (1 ≤ x.length) && (decide (x.length ≤ 8) && x.cps.toList.all low)
theorem uni : ((List.range 128).all fun c => (Unicode.isAlpha c == ((decide (65 ≤ c) && decide (c ≤ 90)) || low c)) && ((Unicode.isLower c == low c) && ((Unicode.isUpper c || Unicode.isTitle c) == (decide (65 ≤ c) && decide (c ≤ 90))))) = true := by decide +kernel
theorem uni_at {c : Nat} (h : c < 128) : Unicode.isAlpha c = ((decide (65 ≤ c) && decide (c ≤ 90)) || low c) ∧ Unicode.isLower c = low c ∧ (Unicode.isUpper c || Unicode.isTitle c) = (decide (65 ≤ c) && decide (c ≤ 90)) := by
  have := List.all_eq_true.mp uni c (List.mem_range.mpr h)
  simp only [Bool.and_eq_true, beq_iff_eq] at this
  exact ⟨this.1, this.2.1, this.2.2⟩
theorem nm_prog {x : PySem.Str} (h1 : 1 ≤ x.length) (h2 : x.length ≤ 8) : nm x = (Txt.isascii x && (Txt.isalpha x && Txt.islower x)) := by
  have e1 : nm x = x.cps.toList.all low := by unfold nm; rw [decide_eq_true h1, decide_eq_true h2] <;> rfl
  have a0 : Txt.isascii x = x.cps.toList.all fun c => decide (c < 128) := by unfold Txt.isascii; rw [← Array.all_toList] <;> rfl
  have a1 : Txt.isalpha x = x.cps.toList.all Unicode.isAlpha := by unfold Txt.isalpha; rw [← Array.all_toList, decide_eq_true (show x.length > 0 from h1), Bool.true_and]
  have a2 : Txt.islower x = (x.cps.toList.any Unicode.isLower && !x.cps.toList.any fun c => Unicode.isUpper c || Unicode.isTitle c) := by unfold Txt.islower; rw [← Array.any_toList, ← Array.any_toList]
  have hl : x.cps.toList.length = x.length := by simp [Str.length]
  rw [e1, a0, a1, a2]
  have hne : x.cps.toList ≠ [] := fun e => by rw [e] at hl; simp at hl; omega
  generalize x.cps.toList = l at hne
  rw [Bool.eq_iff_iff]
  simp only [Bool.and_eq_true, List.all_eq_true, List.any_eq_true, Bool.not_eq_true', decide_eq_true_eq, Bool.or_eq_true]
  constructor
  · intro h
    have hb : ∀ c ∈ l, c < 128 := fun c hc => by have := h c hc; unfold low at this; simp at this; omega
    refine ⟨hb, fun c hc => by rw [(uni_at (hb c hc)).1, h c hc, Bool.or_true], ?_, ?_⟩
    · obtain ⟨c, r, rfl⟩ := List.exists_cons_of_ne_nil hne
      exact ⟨c, List.mem_cons_self, by rw [(uni_at (hb c List.mem_cons_self)).2.1, h c List.mem_cons_self]⟩
    · rw [List.any_eq_false]
      intro c hc
      rw [(uni_at (hb c hc)).2.2]
      have := h c hc; unfold low at this; simp at this ⊢; omega
  · rintro ⟨hb, ha, _, hu⟩ c hc
    have q1 := ha c hc
    rw [(uni_at (hb c hc)).1] at q1
    have q2 := (List.any_eq_false.mp hu) c hc
    rw [(uni_at (hb c hc)).2.2] at q2
    cases hl : low c with
    | true => rfl
    | false => rw [hl, Bool.or_false] at q1; exact absurd q1 q2
theorem alpha_list : alpha.cps.toList = (List.range 26).map (97 + ·) := by decide +kernel
theorem alpha_has (c : Nat) : alpha.cps.contains c = low c := by
  rw [Bool.eq_iff_iff, Array.contains_iff_mem, ← Array.mem_toList_iff, alpha_list, List.mem_map]
  unfold low
  simp only [List.mem_range, Bool.and_eq_true, decide_eq_true_eq]
  constructor
  · rintro ⟨a, h, rfl⟩; omega
  · rintro ⟨h1, h2⟩; exact ⟨c - 97, by omega, by omega⟩
theorem takeWhile_all {p : Nat → Bool} : ∀ {l : List Nat}, (∀ c ∈ l, p c = true) → l.takeWhile p = l
  | [], _ => rfl
  | a :: l, h => by rw [List.takeWhile_cons, if_pos (h a (by simp)), takeWhile_all fun c hc => h c (by simp [hc])]
theorem takeWhile_le (p : Nat → Bool) : ∀ l : List Nat, (l.takeWhile p).length ≤ l.length
  | [] => Nat.le_refl _
  | a :: l => by
    rw [List.takeWhile_cons]
    split
    · simp only [List.length_cons]; have := takeWhile_le p l; omega
    · simp
theorem takeWhile_lt {p : Nat → Bool} : ∀ {l : List Nat}, (∃ c ∈ l, p c = false) → (l.takeWhile p).length < l.length
  | [], h => by obtain ⟨c, hc, _⟩ := h; cases hc
  | a :: l, h => by
    rw [List.takeWhile_cons]
    split
    · rename_i ha
      have : ∃ c ∈ l, p c = false := by
        obtain ⟨c, hc, hp⟩ := h
        rcases List.mem_cons.mp hc with rfl | hc
        · rw [ha] at hp; cases hp
        · exact ⟨c, hc, hp⟩
      have := takeWhile_lt this
      simp only [List.length_cons]; omega
    · simp
theorem drop_takeWhile_head {p : Nat → Bool} : ∀ {l : List Nat}, (l.takeWhile p).length < l.length → ∃ c ∈ l.drop (l.takeWhile p).length, p c = false
  | [], h => by simp at h
  | a :: l, h => by
    cases ha : p a with
    | false => exact ⟨a, by rw [List.takeWhile_cons, if_neg (by rw [ha]; simp)]; simp, ha⟩
    | true =>
      rw [List.takeWhile_cons, if_pos ha] at h ⊢
      simp only [List.length_cons] at h
      obtain ⟨c, hc, hp⟩ := drop_takeWhile_head (p := p) (l := l) (by omega)
      exact ⟨c, by simpa using hc, hp⟩
theorem strip_nil {x : PySem.Str} (h1 : 1 ≤ x.length) : decide (Txt.stripChars x alpha = "") = x.cps.toList.all low := by
  have hg : alpha.cps.contains = low := funext alpha_has
  have es : (("" : PySem.Str)) = ⟨#[]⟩ := by decide +kernel
  have hl : x.cps.toList.length = x.length := by simp [Str.length]
  have hsub : ∀ lo hi, lo ≤ hi → hi ≤ x.length → (Builtin.Str.strSub x lo hi).length = hi - lo := fun lo hi h1 h2 => by
    show (x.cps.extract lo hi).size = hi - lo
    rw [Array.size_extract]
    have : x.cps.size = x.length := rfl
    omega
  have hz : ∀ y : PySem.Str, y = ("" : PySem.Str) ↔ y.length = 0 := fun y => by
    rw [es]
    constructor
    · rintro rfl; rfl
    · intro h
      obtain ⟨a⟩ := y
      have : a.size = 0 := h
      rw [Array.eq_empty_of_size_eq_zero this]
  rw [Bool.eq_iff_iff, decide_eq_true_eq, hz, List.all_eq_true]
  unfold Txt.stripChars Txt.stripBy
  rw [hg]
  constructor
  · intro h c hc
    cases hcl : low c with
    | true => rfl
    | false =>
      exfalso
      have t1 := takeWhile_lt (p := low) ⟨c, hc, hcl⟩
      split at h
      · omega
      · unfold stripped at h
        have elo : stripLo low true x = (x.cps.toList.takeWhile low).length := rfl
        have ehi : stripHi low true x (stripLo low true x) = x.length - ((x.cps.toList.drop (stripLo low true x)).reverse.takeWhile low).length := rfl
        obtain ⟨d, hd, hdl⟩ := drop_takeWhile_head t1
        have t2 := takeWhile_lt (p := low) (l := (x.cps.toList.drop (stripLo low true x)).reverse) ⟨d, by rw [elo]; exact List.mem_reverse.mpr hd, hdl⟩
        rw [List.length_reverse, List.length_drop] at t2
        rw [hsub _ _ (by omega) (by omega)] at h
        omega
  · intro h
    have t1 : x.cps.toList.takeWhile low = x.cps.toList := takeWhile_all h
    have elo : stripLo low true x = x.length := by show (x.cps.toList.takeWhile low).length = _; rw [t1, hl]
    have ehi : stripHi low true x x.length = x.length := by
      show x.length - ((x.cps.toList.drop x.length).reverse.takeWhile low).length = _
      rw [List.drop_eq_nil_of_le (by omega)] <;> rfl
    have hs : stripSame low true true x = false := by
      unfold stripSame
      rw [elo]
      have : (x.length == 0) = false := by simp; omega
      rw [this, Bool.false_and]
    rw [hs, if_neg (by simp)]
    unfold stripped
    rw [elo, ehi, hsub _ _ (Nat.le_refl _) (Nat.le_refl _)]
    omega
end K1
/-! An own exception with its own __init__ raised; a try with two clauses, the second with a name. -/
namespace K1
open PySem PySem.Spec PyProof.Rows L2 K0

theorem pmk_exi {X : Cx} {x : PySem.Str} {C fI : Addr} {k : Nat} {fd : FuncData} {ps : List PySem.Str} {B Bn newId initN : String} {bmB : List Value} {f : PySem.Str} {e : Expr} {ta : TE} {p pos : Pos} (FB : ExcBaseFacts Bn newId initN bmB) (T : OwnX X.K C B Bn newId f)
    (exC : PySem.W.subIn X.K (.ref C) (.type "BaseException") = some true) (tyC : PySem.W.typeIn X.K (.ref C) = some (.type "type"))
    (iC : PySem.W.findIn X.K (.ref C) "__init__" = some (some (.ref fI))) (tI : PySem.W.typeIn X.K (.ref fI) = some (.type "function")) (F1 : FnOk X.prog X.w X.K X.mg X.base CX0 k fI fd ps (spInit X.K B Bn newId f)) (hr : Room (k + 1) X.A) (hb : Binds X.K fd ps [])
    (hg : Gl X x) (hm : X.mg x = some (.ref C)) (ha : PE X e ta) (hdb : (x == ("__debug__" : PySem.Str)) = false := by decide) (he : starEach [e] X.env = (false, eval e X.env) :: starEach [] X.env := by rfl) :
    PMk X (.Call (.Name x p) [e] [] pos) (fun σ H Q => ta σ H fun v H1 => ∀ d, H1 d = none → Q (.ref C) (some d) (upd H1 d (.xd [(f, v)]))) := by
  intro pins s σ H Q I h
  obtain ⟨nm, q, N, bs, bm, sn, sub, ab, col, dd, k0, k1, k2, k3, k5, hC, t1, t2, t3, t4⟩ := T.cls
  refine wpAny_Call_Name_kw (ld_glob I hg hm ?_ hdb)
  refine PySem.W.callWith_K (h₀ := X.base) I.ok.mod.kin T.kC ?_ he (by rfl)
  rw [he]
  show wpAny _ _ (spliced ((false, eval e X.env) :: backTo pos (starEach [] X.env))) _ _ s
  refine Calls.spliced_cons (thn (ha.run pins s σ H _ I h) fun u s1 ⟨v, H1, I1, r1, q1⟩ => ?_)
  refine Calls.spliced_nil ⟨I1.kIn, ?_⟩
  show wpAny _ _ (call (.ref C) [u]) _ _ _
  obtain ⟨hp, g, dr, tk, os⟩ := s1
  have hsz : hp.objs.size ≤ hp.objs.size + 1 := Nat.le_succ _
  have hn : H1 (hp.objs.size + 1) = none := I1.hok.fresh hsz
  have kk : ∀ b o, hp.get? b = some o → ((hp.push (PySem.W.kdv_tup [u])).push (PySem.HandSPX.excO C hp.objs.size)).get? b = some o := fun b o e => Heap.get?_push_of_some _ (Heap.get?_push_of_some _ e)
  have hget : ((hp.push (PySem.W.kdv_tup [u])).push (PySem.HandSPX.excO C hp.objs.size)).get? (hp.objs.size + 1) = some (PySem.HandSPX.excO C hp.objs.size) := by heap_get
  have I2 : Inv X pins σ (upd H1 (hp.objs.size + 1) (exo (hp.objs.size + 1) C none)) ⟨(hp.push (PySem.W.kdv_tup [u])).push (PySem.HandSPX.excO C hp.objs.size), g, dr, tk, os⟩ := I1.laid (t' := tk) kk hsz (exo_ok hget)
  have r2 : Vals [V.ref (hp.objs.size + 1), v] [Value.ref (hp.objs.size + 1), u] := .cons rfl (.cons r1 .nil)
  have hq : spInit X.K B Bn newId f [.ref (hp.objs.size + 1), v] (upd H1 (hp.objs.size + 1) (exo (hp.objs.size + 1) C none)) (fun z H2 => z = .non ∧ ∃ d, H1 d = none ∧ d ≠ hp.objs.size + 1 ∧ H2 = upd (upd H1 d (exd d [(f, v)])) (hp.objs.size + 1) (exo (hp.objs.size + 1) C (some d))) E0 := by
    refine ⟨_, C, v, rfl, T, upd_same, fun d hd hne => ⟨rfl, d, by rw [upd_ne hne] at hd; exact hd, hne, ?_⟩⟩
    funext b
    by_cases hb : b = hp.objs.size + 1
    · rw [hb, upd_same, upd_same]
    · rw [upd_ne hb, upd_ne hb]
      by_cases hbd : b = d
      · rw [hbd, upd_same, upd_same]
      · rw [upd_ne hbd, upd_ne hbd, upd_ne hb]
  have hl : ([Value.ref (hp.objs.size + 1), u] ++ []).length = ps.length := by have z := F1.len _ _ _ _ hq; exact z
  refine wpAny_call (call_ex FB t1 (I1.kIn _ _ hC) (PySem.W.looks_findIn I1.kIn iC) (fun self => PySem.W.bind_fn I1.kIn self tI) (by show 1 ≤ sizeLine; rw [sizeLine_eq]; omega)
    (codeAny_mono (F1.run _ X.stack _ _ ⟨[Value.ref (hp.objs.size + 1), u], []⟩ [Value.ref (hp.objs.size + 1), u] _ _ (fun _ _ _ => False) (hr.make C [u] []) (I2.env0.make C [u] []) (by simpa using hb _ [Value.ref (hp.objs.size + 1), u] I2.kIn hl) r2 hq) fun r s' hq' => ?_))
  cases r with
  | error er => exact hq'.elim
  | ok fl =>
    cases fl with
    | ret w =>
      obtain ⟨z, H2, os2, bare2, un2, hok2, rz, ez, d, hd, hne, eH⟩ := hq'
      subst ez
      obtain ⟨h2, g2, d2, t2, os'⟩ := s'
      have ea : H2 (hp.objs.size + 1) = some (exo (hp.objs.size + 1) C (some d)) := by rw [eH, upd_same]
      have ed : H2 d = some (exd d [(f, v)]) := by rw [eH, upd_ne hne, upd_same]
      have eq : upd (del H2 (hp.objs.size + 1)) d (.xd [(f, v)]) = upd H1 d (.xd [(f, v)]) := by
        funext b
        by_cases hbd : b = d
        · rw [hbd, upd_same, upd_same]
        · rw [upd_ne hbd, upd_ne hbd]
          by_cases hb : b = hp.objs.size + 1
          · rw [hb, del_same, hn]
          · rw [del_ne hb, eH, upd_ne hb, upd_ne hbd]
      exact ⟨rz, mk_end (raises_own exC tyC) I1 hsz kk un2 hok2 os2 bare2 ea ed hd (by rw [eq]; exact q1 d hd)⟩
    | next => exact False.elim hq'
    | brk => exact False.elim hq'
    | cont => exact False.elim hq'
/-- two clauses, one of which is taken; the second has a name -/
def wTwo (K : PySem.W.Frag) (c1 : Value) (ts1 : Addr → Value → Option Addr → TS) (c2 : Value) (i : Nat) (ts2 : Addr → Value → Option Addr → TS) (D : Ends) : WX := fun cls d σ H =>
  (PySem.W.exmOne K cls c1 = some true ∧ ∀ a, H a = none → ts1 a cls d D σ H) ∨ (PySem.W.exmOne K cls c1 = some false ∧ wAs K c2 i ts2 (fun _ _ _ _ => False) D cls d σ H)
section
variable {X : Cx}
/-- how a suite's way out reads behind the suite -/
theorem out_plain {a : Addr} {oe : Obj} {pins : List (Addr × Obj)} {D : Ends} {fl : Flow} {t : Shared} (ok : X.Ok) (h : SP (X.suite a ((a, oe) :: (X.pn ++ pins))) [] D fl t) : SP X pins D fl t := by
  cases fl with
  | ret u => exact let ⟨v, σ1, H1, J, rv, q⟩ := h; ⟨v, σ1, H1, J.unsuite ok, rv, q⟩
  | next => exact let ⟨σ1, H1, J, q⟩ := h; ⟨σ1, H1, J.unsuite ok, q⟩
  | brk => exact let ⟨σ1, H1, J, q⟩ := h; ⟨σ1, H1, J.unsuite ok, q⟩
  | cont => exact let ⟨σ1, H1, J, q⟩ := h; ⟨σ1, H1, J.unsuite ok, q⟩
/-- the same where a name is let go -/
theorem out_named {a : Addr} {oe : Obj} {i : Nat} {n : PySem.Str} {p : Pos} {pins : List (Addr × Obj)} {D : Ends} {fl : Flow} {t : Shared} (ok : X.Ok) (nd : X.N.Nodup) (at_ : X.N[i]? = some n) (lo : X.env.kindOf n = some .local)
    (h : SP (X.suite a ((a, oe) :: (X.pn ++ pins))) [] { nx := fun σ' H' => D.nx (σ'.set i none) H', rt := D.rt, bk := fun σ' H' => D.bk (σ'.set i none) H', ct := fun σ' H' => D.ct (σ'.set i none) H' } fl t) :
    wpAny (model X.prog X.w) X.A (do bindName X.env n .none; unbindBehindTheSuite X.env n p) (fun _ t' => SP X pins D fl t') X.xe t := by
  cases fl with
  | ret u => obtain ⟨v, σ1, H1, J, rv, q⟩ := h; exact gone_ok (J.unsuite ok) nd at_ lo fun _ J' => ⟨v, _, H1, J', rv, q⟩
  | next => obtain ⟨σ1, H1, J, q⟩ := h; exact gone_ok (J.unsuite ok) nd at_ lo fun _ J' => ⟨_, H1, J', q⟩
  | brk => obtain ⟨σ1, H1, J, q⟩ := h; exact gone_ok (J.unsuite ok) nd at_ lo fun _ J' => ⟨_, H1, J', q⟩
  | cont => obtain ⟨σ1, H1, J, q⟩ := h; exact gone_ok (J.unsuite ok) nd at_ lo fun _ J' => ⟨_, H1, J', q⟩
/-- the body's own way out, read without the try -/
theorem out_body {pins p2 : List (Addr × Obj)} {xe : Value → Shared → Prop} {D : Ends} {fl : Flow} {t : Shared} (ok : X.Ok) (h : SP (X.tr p2 xe) [] D fl t) (back : ∀ {σ H}, Inv (X.tr p2 xe) [] σ H t → Inv X pins σ H t) : SP X pins D fl t := by
  cases fl with
  | ret u => exact let ⟨v, σ1, H1, J, rv, q⟩ := h; ⟨v, σ1, H1, back J, rv, q⟩
  | next => exact let ⟨σ1, H1, J, q⟩ := h; ⟨σ1, H1, back J, q⟩
  | brk => exact let ⟨σ1, H1, J, q⟩ := h; ⟨σ1, H1, back J, q⟩
  | cont => exact let ⟨σ1, H1, J, q⟩ := h; ⟨σ1, H1, back J, q⟩
/-- a caught exception is no frame of those that run -/
theorem not_a_frame {B : Heap} {l : List Env} {h : Heap} {a : Addr} {o : Obj} {vs : Array Value} (ff : h.FunFrames B l) (e : h.get? a = some o) (d : o.data = .fields vs) : a ∉ frs l := fun hm =>
  let ⟨_, o', e', no⟩ := ff.mem hm
  no _ ((congrArg Obj.data (Option.some.inj (e'.symm.trans e))).trans d)
variable {x y n : PySem.Str} {c1 c2 : Value} {i : Nat} {body su1 su2 : List Stmt} {b1 b2 : Stmt} {q1 q2 pos pos1 pos2 : Pos} {tb : WX → TS} {ts1 ts2 : Addr → Value → Option Addr → TS}
theorem ps_try_two (hs : X.stack = X.env :: X.outer) (hf : X.env.frame = some X.env.locals) (nd : X.N.Nodup) (at_ : X.N[i]? = some n) (lo : X.env.kindOf n = some .local) (k1 : Names X x c1) (k2 : Names X y c2)
    (hb : ∀ (W : WX) (pn : List (Addr × Obj)) (xe : Value → Shared → Prop), Takes (X.tr pn xe) W → PSs (X.tr pn xe) body (tb W))
    (s1 : ∀ (a : Addr) (oe : Obj) (cls : Value) (d : Option Addr) (pn : List (Addr × Obj)), Zc cls d oe → (∃ vs, oe.data = .fields vs) → PSs (X.suite a ((a, oe) :: pn)) (b1 :: su1) (ts1 a cls d))
    (s2 : ∀ (a : Addr) (oe : Obj) (cls : Value) (d : Option Addr) (pn : List (Addr × Obj)), Zc cls d oe → (∃ vs, oe.data = .fields vs) → PSs (X.suite a ((a, oe) :: pn)) (b2 :: su2) (ts2 a cls d)) :
    PS X (.Try body [.ExceptHandler (some (.Name x q1)) none (b1 :: su1) pos1, .ExceptHandler (some (.Name y q2)) (some n) (b2 :: su2) pos2] [] [] pos) (fun D σ H => tb (wTwo X.K c1 ts1 c2 i ts2 D) D σ H) := by
  refine ⟨fun pins s σ H D I reading => wpAny_Try_except ?_⟩
  have ok := I.ok
  have frames : X.A.frames = some (X.env :: X.outer) := hs ▸ ok.frames
  refine wpAny_mono ((hb (wTwo X.K c1 ts1 c2 i ts2 D) (X.pn ++ pins) (fun e t₁ => wpAny (model X.prog X.w) X.A (noteFrame e X.env) (fun _ t₂ => wpAny (model X.prog X.w) X.A (setFlight e none) (fun _ t₃ =>
    wpAny (model X.prog X.w) X.A (handleBy e X.env [.ExceptHandler (some (.Name x q1)) none (b1 :: su1) pos1, .ExceptHandler (some (.Name y q2)) (some n) (b2 :: su2) pos2]) (SP X pins D) X.xe t₃) X.xe t₂) X.xe t₁) (fun u t thrown => ?_)).run [] s σ H D (I.toTry _) reading) (fun fl t done => ?_) (fun _ _ r => r)
  case refine_2 =>
    cases fl with
    | next => exact wpAny_execs_nil (out_body (fl := .next) ok done fun J => J.ofTry ok)
    | ret u => exact out_body (fl := .ret u) ok done fun J => J.ofTry ok
    | brk => exact out_body (fl := .brk) ok done fun J => J.ofTry ok
    | cont => exact out_body (fl := .cont) ok done fun J => J.ofTry ok
  obtain ⟨a, B, t0, ps, σ1, H1, cls, d, rfl, JT, nob, up, sky, free, same, bare, wish⟩ := thrown
  have J : Inv X pins σ1 H1 t0 := JT.ofTry ok
  rw [show (X.tr (X.pn ++ pins) _).stack = X.env :: X.outer from hs] at sky
  show wpAny (model X.prog X.w) X.A (noteFrame (.ref a) X.env) _ _ _
  refine Sky.land Zc.steady frames hf sky fun h3 fly up3 => ?_
  obtain ⟨oe, vs, at3, z3, f3⟩ := fly.there
  have J3 : Inv X pins σ1 H1 { t with heap := h3 } := J.landed nob fly.1 (up.trans up3) same bare
  have out : a ∉ frs (X.env :: X.outer) := not_a_frame fly.2.2.1 at3 f3
  have o1 : a ≠ X.env.locals := fun e => out (List.mem_filterMap.mpr ⟨_, .head _, hf.trans (congrArg some e.symm)⟩)
  have o2 : a ∉ X.fs := fun m => let ⟨e, he, q⟩ := List.mem_filterMap.mp m
    out (List.mem_filterMap.mpr ⟨e, .tail _ he, q⟩)
  have J4 := J3.suite at3 f3 free o1 o2
  have looks : PySem.W.Looks (model X.prog X.w) h3 (typeOf (.ref a)) cls := fun _ _ _ _ kp g => wpAny_typeOf_ref (kp _ _ at3) (z3.1.symm ▸ g)
  have asked : ∀ {z : PySem.Str} {c : Value} {p : Pos} {Q E : Value → Shared → Prop}, Names X z c → Q c { t with heap := h3 } → wpAny (model X.prog X.w) (X.A.mark (some (.ref a))) (eval (.Name z p) X.env) Q E { t with heap := h3 } := by
    rintro z c p Q E ⟨glo, dbg, here | ⟨here, boot, nn⟩⟩ q
    · exact ld_glob (X := X.suite a ((a, oe) :: (X.pn ++ pins))) J4 glo here q dbg
    · exact ld_blt (X := X.suite a ((a, oe) :: (X.pn ++ pins))) J4 glo here boot q nn dbg
  refine wpAny_handleBy_cons (codeAny_handlers_test (asked k1 ?_)) nofun
  rcases wish with ⟨yes, go⟩ | ⟨no, b, e2, go, stop⟩
  · refine (PySem.W.exm_one (M := model X.prog X.w) J3.kIn looks yes).here (codeAny_handlers_suite (HandSPX.lands_againZ fly fun h4 fly4 up4 => ?_))
    obtain ⟨oe4, vs4, at4, z4, f4⟩ := fly4.there
    have K5 : Inv X pins σ1 H1 { t with heap := h4 } := J.landed nob fly4.1 ((up.trans up3).trans up4) same bare
    have J5 := K5.suite at4 f4 free o1 o2
    exact wpAny_mono ((s1 a oe4 cls d (X.pn ++ pins) z4 ⟨_, f4⟩).run [] _ σ1 H1 D J5 (go a free)) (fun fl t' h => out_plain ok h) (fun _ _ z => z.elim)
  · refine (PySem.W.exm_one (M := model X.prog X.w) J3.kIn looks no).here ?_
    show wpAny _ X.A (handleBy (.ref a) X.env [.ExceptHandler (some (.Name y q2)) (some n) (b2 :: su2) pos2]) _ _ _
    refine wpAny_handleBy_cons (codeAny_handlers_test (asked k2 ?_)) nofun
    refine (PySem.W.exm_one (M := model X.prog X.w) J3.kIn looks e2).here ?_
    cases b with
    | false => exact (stop rfl).elim
    | true =>
      refine codeAny_handlers_suite_as (HandSPX.lands_againZ fly fun h4 fly4 up4 => ?_)
      obtain ⟨oe4, vs4, at4, z4, f4⟩ := fly4.there
      have K5 : Inv X pins σ1 H1 { t with heap := h4 } := J.landed nob fly4.1 ((up.trans up3).trans up4) same bare
      have J5 := K5.suite at4 f4 free o1 o2
      exact store_ok (X := X.suite a ((a, oe4) :: (X.pn ++ pins))) (v := .ref a) J5 nd at_ (.inl lo) rfl (fun t' J6 => wpAny_mono ((s2 a oe4 cls d (X.pn ++ pins) z4 ⟨_, f4⟩).run [] t' _ H1 _ J6 (go rfl a free)) (fun fl t2 h => out_named ok nd at_ lo h) (fun _ _ z => z.elim)) (.inr lo)
end
end K1
/-! The dice, and the words drawn by them. -/
namespace K1
open PySem PySem.Spec PyProof.Rows L2 K0

def top (i : Nat) : Stmt := PySem.Challenge.pw_letterrules_k01_names_and_events.main.body.getD i (.Pass ⟨0, 0, 0, 0⟩)
abbrev sDice : Stmt := top 19
abbrev sPull : Stmt := top 20
abbrev sPick : Stmt := top 21
abbrev sWord : Stmt := top 23

/-- dice at p: three numbers -/
structure Dice (H : Hp) (p : Addr) (x y z : Int) : Prop where
  at_ : H p = some (.lst [.int x, .int y, .int z])
  x0 : 0 ≤ x
  x1 : x.natAbs < 2 ^ 2400
  y0 : 0 ≤ y
  y1 : y < 2147483648
  z0 : 0 ≤ z
def spDice (K : PySem.W.Frag) : Sp := fun vs H Q _ => ∃ (a : Addr) (ns : List Int) (i : Int), vs = [.ref a, .int i] ∧ SqL K H a (ns.map V.int) ∧ ns.length ≤ 1000 ∧ 0 ≤ i ∧ ∀ (p : Addr) (x y : Int) (H' : Hp), Same H H' → H p = none → Dice H' p x y 0 → Q (.ref p) H'
def spPull : Sp := fun vs H Q _ => ∃ (p : Addr) (x y z n : Int), vs = [.ref p, .int n] ∧ Dice H p x y z ∧ 0 < n ∧ n < 1000000 ∧
  ∀ (r x' z' : Int) (H' : Hp), 0 ≤ r → r < n → Dice H' p x' y z' → z' ≤ z + 1 → (∀ b o, b ≠ p → H b = some o → H' b = some o) → Q (.int r) H'
def spPick : Sp := fun vs H Q _ => ∃ (p q : Addr) (x y z : Int) (xs : List V), vs = [.ref p, .ref q] ∧ Dice H p x y z ∧ p ≠ q ∧ H q = some (.lst xs) ∧ 0 < xs.length ∧ xs.length < 1000 ∧
  ∀ (j : Nat) (v : V) (x' z' : Int) (H' : Hp), xs[j]? = some v → Dice H' p x' y z' → z' ≤ z + 1 → (∀ b o, b ≠ p → H b = some o → H' b = some o) → Q v H'
/-- built-in names that the top leaves alone -/
structure Bare (mg : PySem.Str → Option Value) : Prop where
  int : mg "int" = none
  abs : mg "abs" = none
  max : mg "max" = none
  min : mg "min" = none
  len : mg "len" = none
  rng : mg "range" = none
  rep : mg "repr" = none
  isi : mg "isinstance" = none
  str : mg "str" = none
  tup : mg "tuple" = none
  bool : mg "bool" = none
  all : mg "all" = none
  dvm : mg "divmod" = none

/-- a pick from a text -/
def spPickS : Sp := fun vs H Q _ => ∃ (p : Addr) (x y z : Int) (t : PySem.Str), vs = [.ref p, .str t] ∧ Dice H p x y z ∧ 0 < t.length ∧ t.length < 1000 ∧
  ∀ (c : Nat) (x' z' : Int) (H' : Hp), c ∈ t.cps.toList → Dice H' p x' y z' → z' ≤ z + 1 → (∀ b o, b ≠ p → H b = some o → H' b = some o) → Q (.str ⟨#[c]⟩) H'
/-- the signs of drawn words -/
def sgn : List Nat := [97, 98, 122, 65, 49, 32, 95, 46]
/-- a drawn word -/
def Wd (x : PySem.Str) : Prop := x.length ≤ 10 ∧ ∀ c ∈ x.cps.toList, c ∈ sgn
def spWord : Sp := fun vs H Q _ => ∃ (p : Addr) (x y z : Int), vs = [.ref p] ∧ Dice H p x y z ∧
  ∀ (t : PySem.Str) (x' z' : Int) (H' : Hp), Wd t → Dice H' p x' y z' → (∀ b o, b ≠ p → H b = some o → H' b = some o) → Q (.str t) H'
section
variable {P : Program} {w : World} {K : PySem.W.Frag} {mg : PySem.Str → Option Value} {base : Heap}
theorem scDice : FnScope ["_law_script", "_law_at", "_law_cell", "_law_great", "_law_mixed_here"] ["_law_script", "_law_at"] (defScope sDice) := ⟨rfl, rfl, rfl, by decide +kernel, rfl, by decide +kernel, by decide +kernel⟩
theorem big_pos : (0 : Int) < ((10 : Int) ^ (60 : Int).toNat) ^ (12 : Int).toNat := by decide +kernel
theorem big_lt : (((10 : Int) ^ (60 : Int).toNat) ^ (12 : Int).toNat).natAbs < 2 ^ 2400 := by decide +kernel
theorem big_bits : (Builtin.Int.intBits ((10 : Int) ^ (60 : Int).toNat) : Int) * 12 ≤ 2 ^ 27 := by decide +kernel
theorem dice_made {H : Hp} {p : Addr} {c m : Int} (h : H p = some (.lst [.int (if (if c < 0 then -c else c) % ((10 : Int) ^ (60 : Int).toNat) ^ (12 : Int).toNat - (10 : Int) ^ (18 : Int).toNat > 0 then (if c < 0 then -c else c) % ((10 : Int) ^ (60 : Int).toNat) ^ (12 : Int).toNat - (10 : Int) ^ (18 : Int).toNat else 0), .int (m % 2147483489), .int 0])) :
    Dice H p (if (if c < 0 then -c else c) % ((10 : Int) ^ (60 : Int).toNat) ^ (12 : Int).toNat - (10 : Int) ^ (18 : Int).toNat > 0 then (if c < 0 then -c else c) % ((10 : Int) ^ (60 : Int).toNat) ^ (12 : Int).toNat - (10 : Int) ^ (18 : Int).toNat else 0) (m % 2147483489) 0 := by
  have h1 := Int.emod_nonneg (if c < 0 then -c else c) (Int.ne_of_gt big_pos)
  have h2 := Int.emod_lt_of_pos (if c < 0 then -c else c) big_pos
  have h3 := big_lt
  have h6 : (0 : Int) ≤ (10 : Int) ^ (18 : Int).toNat := by decide
  generalize (if c < 0 then -c else c) % ((10 : Int) ^ (60 : Int).toNat) ^ (12 : Int).toNat = g at h1 h2 h ⊢
  generalize ((10 : Int) ^ (60 : Int).toNat) ^ (12 : Int).toNat = n at h2 h3
  generalize (10 : Int) ^ (18 : Int).toNat = t at h6 h ⊢
  have h4 : g.natAbs < 2 ^ 2400 := Nat.lt_of_le_of_lt (by omega) h3
  refine ⟨h, ?_, ?_, Int.emod_nonneg _ (by decide), Int.lt_trans (Int.emod_lt_of_pos m (show (0 : Int) < 2147483489 by decide)) (by decide), Int.le_refl _⟩
  · split <;> omega
  · split
    · exact Nat.lt_of_le_of_lt (by omega) h4
    · show 0 < 2 ^ 2400
      exact Nat.pow_pos (by decide)
theorem ok_dice {f : Addr} {fd : FuncData} (F : Fun K "_law_dice" "_law_dice" sDice f fd) (T : Bare mg) : FnOk P w K mg base CX0 1 f fd ["_law_script", "_law_at"] (spDice K) := by
  refine F.ok scDice (fun vs H Q E h => ?_) (fun cdv A outer s H vs Q E hr h => ?_)
  · obtain ⟨a, ns, i, rfl, _⟩ := h
    rfl
  · obtain ⟨a, ns, i, rfl, hS, hlen, hi, k⟩ := h
    refine ⟨_, pss_cons (ps_set (i := 2) scDice.nd rfl (Or.inl rfl) (pe_op op_add (pe_op op_mul pe_int (pv 1)) pe_int))
      (pss_cons (ps_if (pt_cmpR op_lt (pv 1) (pe_callB call_len_seq (by rfl) T.len PySem.boot_len (pa_cons (pv 0) pa_nil)) (nomark _)) (pss_one (ps_set (i := 2) scDice.nd rfl (Or.inl rfl) (pe_ix ix_list (pv 0) (pv 1) (fun _ _ => rfl)))) pss_nil)
      (pss_cons (ps_set (i := 3) scDice.nd rfl (Or.inl rfl) (pe_op op_mod (pe_callTy call_int1 (by rfl) T.int (by decide +kernel) (pa_cons (pe_callB call_abs (by rfl) T.abs (by decide +kernel) (pa_cons (pv 2) pa_nil)) pa_nil)) (pe_op op_powX (pe_op op_pow pe_int pe_int) pe_int)))
      (pss_cons (ps_set (i := 4) scDice.nd rfl (Or.inl rfl) (pe_op op_add (pe_op op_add (pe_op op_add (pe_op op_mul (pe_op op_mod (pe_callTy call_int1 (by rfl) T.int (by decide +kernel) (pa_cons (pv 3) pa_nil)) pe_int) pe_int) (pe_op op_mul pe_int (pv 1)))
          (pe_op op_mul pe_int (pe_callTy call_int1 (by rfl) T.int (by decide +kernel) (pa_cons (pe_cmpR op_lt (pv 2) pe_int (nomark _)) pa_nil)))) pe_int))
      (pss_one (ps_ret (pe_lst (pa_cons (pe_callB (call_max2 rfl) (by rfl) T.max (by decide +kernel) (pa_cons pe_int (pa_cons (pe_op op_sub (pv 3) (pe_op op_pow pe_int pe_int)) pa_nil)))
          (pa_cons (pe_op op_mod (pe_callTy call_int1 (by rfl) T.int (by decide +kernel) (pa_cons (pv 4) pa_nil)) pe_int) (pa_cons pe_int pa_nil))))))))), ?_⟩
    refine ⟨_, rfl, _, _, rfl, rfl, .inl ⟨by decide, by decide⟩, _, _, rfl, rfl, _, rfl, _, rfl, a, _, rfl, .inl hS, _, _, rfl, rfl, _, rfl, ?_⟩
    refine ite2 (fun hlt => ?ya) (fun _ => ?na)
    case' ya =>
      have hlt' := of_decide_eq_true hlt
      rw [List.length_map] at hlt'
      obtain ⟨j, rfl⟩ : ∃ j : Nat, i = (j : Int) := ⟨i.toNat, by omega⟩
      have hj : j < ns.length := by omega
      refine ⟨_, rfl, _, rfl, a, _, _, .int ns[j], rfl, rfl, hS, at_of rfl (by rw [List.getElem?_map, List.getElem?_eq_getElem hj] <;> rfl), ?_⟩
    all_goals
      refine ⟨_, rfl, _, rfl, .inl ⟨_, rfl, _, _, rfl, rfl, ⟨by decide, by decide, by decide⟩, _, _, rfl, rfl, ⟨by decide, big_bits⟩, _, _, rfl, rfl, big_pos, ?_⟩⟩
      refine ⟨_, rfl, .inl ⟨_, rfl, _, _, rfl, rfl, (by show (0 : Int) < 2147483543; decide), _, _, rfl, rfl, .inr ⟨by decide, by decide⟩, _, rfl, _, _, rfl, rfl, .inl ⟨by decide, by decide⟩, _, _, rfl, rfl, _, rfl, _, _, rfl, rfl, .inr ⟨_, rfl, _, _, rfl, rfl, .inl ⟨by decide, by decide⟩, _, _, rfl, rfl, _, _, rfl, rfl, ?_⟩⟩⟩
      refine ⟨_, rfl, _, _, rfl, rfl, ⟨by decide, by decide, by decide⟩, _, _, rfl, rfl, _, _, rfl, _, rfl, .inl ⟨_, rfl, _, _, rfl, rfl, (by show (0 : Int) < 2147483489; decide), (by show 3 ≤ sizeLine; decide), fun p hp => ?_⟩⟩
      refine k p _ _ _ (fun b o e => by rw [upd_ne (ne_of_none e hp)] <;> exact e) hp (dice_made upd_same)
theorem scPull : FnScope ["_law_dice_here", "_law_total", "_law_found", "_law_one", "_law_two"] ["_law_dice_here", "_law_total"] (defScope sPull) := ⟨rfl, rfl, rfl, by decide +kernel, rfl, by decide +kernel, by decide +kernel⟩
theorem ok_pull {f : Addr} {fd : FuncData} (F : Fun K "_law_pull" "_law_pull" sPull f fd) (T : Bare mg) : FnOk P w K mg base CX0 1 f fd ["_law_dice_here", "_law_total"] spPull := by
  refine F.ok scPull (fun vs H Q E h => ?_) (fun cdv A outer s H vs Q E hr h => ?_)
  · obtain ⟨p, x, y, z, n, rfl, _⟩ := h
    rfl
  · obtain ⟨p, x, y, z, n, rfl, D, hn0, hn1, k⟩ := h
    refine ⟨_, pss_cons (ps_if (pt_cmpR op_gt (pe_ix ix_list (pv 0) pe_int (fun _ _ => rfl)) pe_int (nomark _))
        (pss_cons (ps_set (i := 2) scPull.nd rfl (Or.inl rfl) (pe_op op_mod (pe_callTy call_int1 (by rfl) T.int (by decide +kernel) (pa_cons (pe_ix ix_list (pv 0) pe_int (fun _ _ => rfl)) pa_nil)) (pv 1)))
        (pss_cons (ps_asg (pe_op op_fdiv (pe_ix ix_list (pv 0) pe_int (fun _ _ => rfl)) (pv 1)) (pg_sub (pv 0) pe_int set_list))
        (pss_one (ps_ret (pv 2))))) pss_nil)
      (pss_cons (ps_asg (pe_op op_add (pe_ix ix_list (pv 0) pe_int (fun _ _ => rfl)) pe_int) (pg_sub (pv 0) pe_int set_list))
      (pss_cons (ps_set (i := 3) scPull.nd rfl (Or.inl rfl) (pe_op op_mod (pe_callTy call_int1 (by rfl) T.int (by decide +kernel) (pa_cons (pe_op op_add (pe_ix ix_list (pv 0) pe_int (fun _ _ => rfl)) (pe_op op_mul pe_int (pe_ix ix_list (pv 0) pe_int (fun _ _ => rfl)))) pa_nil)) pe_int))
      (pss_cons (ps_set (i := 4) scPull.nd rfl (Or.inl rfl) (pe_op op_mul (pe_op op_mod (pe_callTy call_int1 (by rfl) T.int (by decide +kernel) (pa_cons (pe_op op_mul (pv 3) (pv 3)) pa_nil)) pe_int) (pv 3)))
      (pss_one (ps_ret (pe_op op_mod (pe_callTy call_int1 (by rfl) T.int (by decide +kernel) (pa_cons (pe_op op_fdiv (pe_op op_mod (pe_callTy call_int1 (by rfl) T.int (by decide +kernel) (pa_cons (pe_op op_add (pv 4) (pe_op op_mul pe_int (pe_ix ix_list (pv 0) pe_int (fun _ _ => rfl)))) pa_nil)) pe_int) pe_int) pa_nil)) (pv 1))))))), ?_⟩
    have h0 := D.at_
    refine ⟨_, rfl, p, _, _, .int x, rfl, rfl, SqL.of h0, rfl, _, _, rfl, rfl, _, rfl, ?_⟩
    refine ite2 (fun hgt => ?_) (fun _ => ?_)
    · have hx : 0 < x := of_decide_eq_true hgt
      refine ⟨_, rfl, p, _, _, .int x, rfl, rfl, SqL.of h0, rfl, .inl ⟨_, rfl, _, rfl, _, _, rfl, rfl, hn0, ?_⟩⟩
      refine ⟨_, rfl, p, _, _, .int x, rfl, rfl, SqL.of h0, rfl, _, rfl, _, _, rfl, rfl, ⟨hn0, by omega⟩, _, rfl, p, _, _, 0, rfl, rfl, h0, rfl, ?_⟩
      have hq : (0 : Int) ≤ x / n := Int.ediv_nonneg D.x0 (by omega)
      have hq2 : x / n ≤ x := Int.ediv_le_self n D.x0
      exact ⟨_, rfl, k _ _ z _ (Int.emod_nonneg _ (by omega)) (Int.emod_lt_of_pos _ hn0) ⟨upd_same, hq, Nat.lt_of_le_of_lt (by omega) D.x1, D.y0, D.y1, D.z0⟩ (by omega) fun b o hb e => by rw [upd_ne hb] <;> exact e⟩
    · refine ⟨_, rfl, p, _, _, .int z, rfl, rfl, SqL.of h0, rfl, _, _, rfl, rfl, _, rfl, p, _, _, 2, rfl, rfl, h0, rfl, ?_⟩
      have h1 : (upd H p (.lst [.int x, .int y, .int (z + 1)])) p = some (.lst [.int x, .int y, .int (z + 1)]) := upd_same
      refine ⟨_, rfl, p, _, _, .int y, rfl, rfl, SqL.of h1, rfl, _, rfl, p, _, _, .int (z + 1), rfl, rfl, SqL.of h1, rfl, _, _, rfl, rfl, .inl ⟨by decide, by decide⟩, _, _, rfl, rfl, .inl ⟨_, rfl, _, _, rfl, rfl, (by show (0 : Int) < 2305843009213693951; decide), ?_⟩⟩
      have a1 := Int.emod_nonneg (y + 1000159 * (z + 1)) (show (2305843009213693951 : Int) ≠ 0 by decide)
      have a2 := Int.emod_lt_of_pos (y + 1000159 * (z + 1)) (show (0 : Int) < 2305843009213693951 by decide)
      generalize (y + 1000159 * (z + 1)) % 2305843009213693951 = one at a1 a2 ⊢
      refine ⟨_, rfl, _, rfl, _, _, rfl, rfl, .inl ⟨by omega, by omega⟩, .inl ⟨_, rfl, _, _, rfl, rfl, (by show (0 : Int) < 2305843009213693907; decide), _, rfl, _, _, rfl, rfl, .inr ⟨by omega, by omega⟩, ?_⟩⟩
      refine ⟨_, rfl, _, rfl, p, _, _, .int (z + 1), rfl, rfl, SqL.of h1, rfl, _, _, rfl, rfl, .inl ⟨by decide, by decide⟩, _, _, rfl, rfl, .inl ⟨_, rfl, _, _, rfl, rfl, (by show (0 : Int) < 2305843009213693921; decide), _, _, rfl, rfl, ⟨by decide, by decide⟩, .inl ⟨_, rfl, _, rfl, _, _, rfl, rfl, hn0, ?_⟩⟩⟩
      exact k _ x (z + 1) _ (Int.emod_nonneg _ (by omega)) (Int.emod_lt_of_pos _ hn0) ⟨h1, D.x0, D.x1, D.y0, D.y1, by have := D.z0; omega⟩ (Int.le_refl _) fun b o hb e => by rw [upd_ne hb] <;> exact e
theorem scPick : FnScope ["_law_dice_here", "_law_items"] ["_law_dice_here", "_law_items"] (defScope sPick) := ⟨rfl, rfl, rfl, by decide +kernel, rfl, by decide +kernel, by decide +kernel⟩
theorem ok_pick {f fU : Addr} {fd fdU : FuncData} (F : Fun K "_law_pick" "_law_pick" sPick f fd) (T : Bare mg) (FU : Fun K "_law_pull" "_law_pull" sPull fU fdU) (bU : Binds K fdU ["_law_dice_here", "_law_total"] []) (mU : mg "_law_pull" = some (.ref fU)) : FnOk P w K mg base CX0 2 f fd ["_law_dice_here", "_law_items"] spPick := by
  have GU : FnOk P w K mg base CX0 1 fU fdU ["_law_dice_here", "_law_total"] spPull := ok_pull FU T
  refine F.ok scPick (fun vs H Q E h => ?_) (fun cdv A outer s H vs Q E hr h => ?_)
  · obtain ⟨p, q, x, y, z, xs, rfl, _⟩ := h
    rfl
  · obtain ⟨p, q, x, y, z, xs, rfl, D, hpq, hq, h0, h1, k⟩ := h
    refine ⟨_, pss_one (ps_ret (pe_ix ix_list (pv 1) (pe_call GU hr (by rfl) mU FU.kp bU .nil pass0 (pa_cons (pv 0) (pa_cons (pe_callB call_len_seq (by rfl) T.len PySem.boot_len (pa_cons (pv 1) pa_nil)) pa_nil))) (fun _ _ => rfl))), ?_⟩
    refine ⟨_, rfl, _, rfl, _, rfl, q, _, rfl, .inl (SqL.of hq), p, x, y, z, _, rfl, D, by omega, by omega, fun r x' z' H' r0 r1 D' hz hk => ?_⟩
    obtain ⟨j, rfl⟩ : ∃ j : Nat, r = (j : Int) := ⟨r.toNat, by omega⟩
    have hj : j < xs.length := by omega
    exact ⟨q, xs, _, xs[j], rfl, rfl, SqL.of (hk q _ hpq.symm hq), atI_nat (List.getElem?_eq_getElem hj), k j _ x' z' H' (List.getElem?_eq_getElem hj) D' hz hk⟩
theorem ok_pickS {f fU : Addr} {fd fdU : FuncData} (F : Fun K "_law_pick" "_law_pick" sPick f fd) (T : Bare mg) (FU : Fun K "_law_pull" "_law_pull" sPull fU fdU) (bU : Binds K fdU ["_law_dice_here", "_law_total"] []) (mU : mg "_law_pull" = some (.ref fU)) : FnOk P w K mg base CX0 2 f fd ["_law_dice_here", "_law_items"] spPickS := by
  have GU : FnOk P w K mg base CX0 1 fU fdU ["_law_dice_here", "_law_total"] spPull := ok_pull FU T
  refine F.ok scPick (fun vs H Q E h => ?_) (fun cdv A outer s H vs Q E hr h => ?_)
  · obtain ⟨p, x, y, z, t, rfl, _⟩ := h
    rfl
  · obtain ⟨p, x, y, z, t, rfl, D, h0, h1, k⟩ := h
    refine ⟨_, pss_one (ps_ret (pe_ix ix_str (pv 1) (pe_call GU hr (by rfl) mU FU.kp bU .nil pass0 (pa_cons (pv 0) (pa_cons (pe_callB call_len_str (by rfl) T.len PySem.boot_len (pa_cons (pv 1) pa_nil)) pa_nil))) (fun _ _ => rfl))), ?_⟩
    refine ⟨_, rfl, _, rfl, _, rfl, t, rfl, (by rw [sizeLine_eq]; omega), p, x, y, z, _, rfl, D, by omega, by omega, fun r x' z' H' r0 r1 D' hz hk => ?_⟩
    obtain ⟨j, rfl⟩ : ∃ j : Nat, r = (j : Int) := ⟨r.toNat, by omega⟩
    have e : t.cps.toList.length = t.length := by simp [Str.length]
    have hj : j < t.cps.toList.length := by omega
    exact ⟨t, _, t.cps.toList[j], rfl, rfl, (by rw [sizeLine_eq]; omega), atI_nat (List.getElem?_eq_getElem hj), k _ x' z' H' (List.getElem_mem hj) D' hz hk⟩
theorem Dice.same {H H' : Hp} {p : Addr} {x y z : Int} (D : Dice H p x y z) (s : Same H H') : Dice H' p x y z := ⟨s _ _ D.at_, D.x0, D.x1, D.y0, D.y1, D.z0⟩
theorem Dice.upd {H : Hp} {p q : Addr} {x y z : Int} {o : HO} (D : Dice H p x y z) (h : H q = none) : Dice (upd H q o) p x y z := ⟨by rw [upd_ne (ne_of_none D.at_ h)] <;> exact D.at_, D.x0, D.x1, D.y0, D.y1, D.z0⟩
theorem join_wd : ∀ (cs : List Nat), (Str.join (⟨#[]⟩ : PySem.Str) (cs.map fun c => (⟨#[c]⟩ : PySem.Str))).cps.toList = cs
  | [] => rfl
  | [c] => rfl
  | c :: d :: r => by
    have ih := join_wd (d :: r)
    show ((#[c] ++ #[]) ++ (Str.join (⟨#[]⟩ : PySem.Str) ((d :: r).map fun c => (⟨#[c]⟩ : PySem.Str))).cps).toList = _
    rw [Array.toList_append, ih] <;> rfl
theorem scWord : FnScope ["_law_dice_here", "_law_signs", "_law_turn"] ["_law_dice_here"] (defScope sWord) := ⟨rfl, rfl, rfl, by decide +kernel, rfl, by decide +kernel, by decide +kernel⟩
theorem ok_word {f fU fP : Addr} {fd fdU fdP : FuncData} (F : Fun K "_law_word" "_law_word" sWord f fd) (T : Bare mg) (FU : Fun K "_law_pull" "_law_pull" sPull fU fdU) (bU : Binds K fdU ["_law_dice_here", "_law_total"] []) (mU : mg "_law_pull" = some (.ref fU))
    (FP : Fun K "_law_pick" "_law_pick" sPick fP fdP) (bP : Binds K fdP ["_law_dice_here", "_law_items"] []) (mP : mg "_law_pick" = some (.ref fP)) : FnOk P w K mg base CX0 3 f fd ["_law_dice_here"] spWord := by
  have GU : FnOk P w K mg base CX0 1 fU fdU ["_law_dice_here", "_law_total"] spPull := ok_pull FU T
  have GP : FnOk P w K mg base CX0 2 fP fdP ["_law_dice_here", "_law_items"] spPick := ok_pick FP T FU bU mU
  have GS : FnOk P w K mg base CX0 2 fP fdP ["_law_dice_here", "_law_items"] spPickS := ok_pickS FP T FU bU mU
  refine F.ok scWord (fun vs H Q E h => ?_) (fun cdv A outer s H vs Q E hr h => ?_)
  · obtain ⟨p, x, y, z, rfl, _⟩ := h
    rfl
  · obtain ⟨p, x, y, z, rfl, D, k⟩ := h
    have hr1 : Room 1 _ := hr.mono (by decide)
    refine ⟨_, pss_cons (ps_set (i := 1) scWord.nd rfl (Or.inr rfl) (pe_ifExp (pt_cmpR op_gt (pe_call GU hr1 (by rfl) mU FU.kp bU .nil pass0 (pa_cons (pv 0) (pa_cons pe_int pa_nil))) pe_int (nomark _)) pe_str pe_str))
      (pss_one (ps_ret (pe_join pe_str (pe_lc (own := [("_law_turn", 2)]) (g := gName 2) (tt := tYes) rfl scWord.nd (pi_range1 (by rfl) T.rng (pa_cons (pe_call GP hr (by rfl) mP FP.kp bP .nil pass0 (pa_cons (pv 0) (pa_cons (pe_lst (pa_cons pe_int (pa_cons pe_int (pa_cons pe_int (pa_cons pe_int (pa_cons pe_int (pa_cons pe_int (pa_cons pe_int (pa_cons pe_int pa_nil))))))))) pa_nil))) pa_nil))
        (blkOk_by (N := ["_law_dice_here", "_law_signs", "_law_turn"]) (sc := defScope sWord) (by decide +kernel)) (fun _ _ _ _ _ => pg_name (i := 2) scWord.nd rfl (Or.inl rfl)) (fun _ _ _ _ _ => pts_nil)
        (fun _ _ _ _ _ => pe_call GS hr (by rfl) mP FP.kp bP .nil pass0 (pa_cons (pv 0) (pa_cons (pv 1) pa_nil))))))), ?_⟩
    refine ⟨_, rfl, p, x, y, z, 3, rfl, D, by decide, by decide, fun r x1 z1 H1 r0 r1 D1 hz1 hk1 => ?_⟩
    refine ⟨_, _, rfl, rfl, _, rfl, ?_⟩
    have go : ∀ t : PySem.Str, 0 < t.length → t.length < 1000 → (∀ c ∈ t.cps.toList, c ∈ sgn) → ∀ (D0 : Addr) (m : Nat) (x2 z2 : Int) (H2 : Hp), m ≤ 10 → Dice H2 p x2 y z2 → (∀ b o, b ≠ p → H b = some o → H2 b = some o) → H2 D0 = none →
        ∀ i H', i < m → (∃ (cs : List Nat) (x3 z3 : Int), H' D0 = some (.lst (cs.map fun c => V.str ⟨#[c]⟩)) ∧ cs.length = i ∧ (∀ c ∈ cs, c ∈ sgn) ∧ Dice H' p x3 y z3 ∧ ∀ b o, b ≠ p → H b = some o → H' b = some o) →
        spPickS [.ref p, .str t] H' (fun v H4 => ∃ acc, H4 D0 = some (.lst acc) ∧ acc.length < sizeLine ∧ ∃ (cs : List Nat) (x3 z3 : Int), (upd H4 D0 (.lst (acc ++ [v]))) D0 = some (.lst (cs.map fun c => V.str ⟨#[c]⟩)) ∧ cs.length = i + 1 ∧ (∀ c ∈ cs, c ∈ sgn) ∧ Dice (upd H4 D0 (.lst (acc ++ [v]))) p x3 y z3 ∧ ∀ b o, b ≠ p → H b = some o → (upd H4 D0 (.lst (acc ++ [v]))) b = some o) E0 := by
      intro t t0 t1 tc D0 m x2 z2 H2 hm D2 hk2 n0 i H' hi ⟨cs, x3, z3, e, hl, hcs, D3, hk3⟩
      have pD : p ≠ D0 := ne_of_none D2.at_ n0
      refine ⟨p, x3, y, z3, t, rfl, D3, t0, t1, fun c x4 z4 H4 hc D4 _ hk4 => ?_⟩
      refine ⟨_, hk4 D0 _ pD.symm e, (by rw [List.length_map, hl, sizeLine_eq]; omega), cs ++ [c], x4, z4, (by rw [upd_same, List.map_append] <;> rfl), (by rw [List.length_append, hl] <;> rfl), ?_, ⟨by rw [upd_ne pD] <;> exact D4.at_, D4.x0, D4.x1, D4.y0, D4.y1, D4.z0⟩, fun b o hb he => ?_⟩
      · intro d hd
        rcases List.mem_append.mp hd with q | q
        · exact hcs d q
        · obtain rfl := List.mem_singleton.mp q
          exact tc d hc
      · have hbD : b ≠ D0 := ne_of_none (hk2 b o hb he) n0
        rw [upd_ne hbD]
        exact hk4 b o hb (hk3 b o hb he)
    have items : ∀ (j : Nat) (v : V), ([.int 0, .int 1, .int 1, .int 2, .int 3, .int 8, .int 9, .int 10] : List V)[j]? = some v → ∃ m : Nat, v = .int (m : Int) ∧ m ≤ 10 := fun j v hv => match j, hv with
      | 0, hv => by cases hv; exact ⟨0, rfl, by decide⟩
      | 1, hv => by cases hv; exact ⟨1, rfl, by decide⟩
      | 2, hv => by cases hv; exact ⟨1, rfl, by decide⟩
      | 3, hv => by cases hv; exact ⟨2, rfl, by decide⟩
      | 4, hv => by cases hv; exact ⟨3, rfl, by decide⟩
      | 5, hv => by cases hv; exact ⟨8, rfl, by decide⟩
      | 6, hv => by cases hv; exact ⟨9, rfl, by decide⟩
      | 7, hv => by cases hv; exact ⟨10, rfl, by decide⟩
      | j + 8, hv => by simp at hv
    have fin : ∀ (D0 : Addr) (m : Nat), m ≤ 10 → ∀ H', (∃ (cs : List Nat) (x3 z3 : Int), H' D0 = some (.lst (cs.map fun c => V.str ⟨#[c]⟩)) ∧ cs.length = m ∧ (∀ c ∈ cs, c ∈ sgn) ∧ Dice H' p x3 y z3 ∧ ∀ b o, b ≠ p → H b = some o → H' b = some o) →
        (∃ (a : PySem.Str) (q : Addr) (ys : List PySem.Str), (V.str "" : V) = .str a ∧ ([V.ref D0] : List V) = [.ref q] ∧ (SqL K H' q (ys.map V.str) ∨ SqT K H' q (ys.map V.str)) ∧ (ys.map (·.length)).sum + ys.length * a.length ≤ 16777216 ∧ Q (.str (Txt.join a ys)) H') := by
      intro D0 m hm H' ⟨cs, x3, z3, e, hl, hcs, D3, hk3⟩
      have es : (("" : PySem.Str)) = ⟨#[]⟩ := by decide +kernel
      refine ⟨"", D0, cs.map fun c => ⟨#[c]⟩, rfl, rfl, .inl (SqL.of (by rw [List.map_map]; exact e)), ?_, ?_⟩
      · have : ∀ cs : List Nat, ((cs.map fun c => (⟨#[c]⟩ : PySem.Str)).map (·.length)).sum = cs.length := fun cs => by
          induction cs with
          | nil => rfl
          | cons c r ih => rw [List.map_cons, List.map_cons, List.sum_cons, ih, List.length_cons, Nat.add_comm] <;> rfl
        rw [this, es]
        show cs.length + _ * 0 ≤ _
        omega
      · refine k _ x3 z3 H' ⟨?_, ?_⟩ D3 hk3
        · rw [show Txt.join ("" : PySem.Str) _ = Str.join ("" : PySem.Str) _ from PySem.StrLaws.glued_eq_join _ _, es]
          have := join_wd cs
          show (Str.join _ _).cps.size ≤ 10
          rw [← Array.length_toList, this]; omega
        · rw [show Txt.join ("" : PySem.Str) _ = Str.join ("" : PySem.Str) _ from PySem.StrLaws.glued_eq_join _ _, es, join_wd cs]; exact hcs
    refine ite2 (fun _ => ?_) (fun _ => ?_)
    all_goals
      refine ⟨⟨_, rfl⟩, _, rfl, (by show 8 ≤ sizeLine; decide), fun l hl => ?_⟩
      have pl : p ≠ l := ne_of_none D1.at_ hl
      refine ⟨p, l, x1, y, z1, _, rfl, D1.upd hl, pl, upd_same, (by show 0 < 8; decide), (by show 8 < 1000; decide), fun j v x2 z2 H2 hv D2 _ hk2 => ?_⟩
      obtain ⟨m, rfl, hm⟩ := items j v hv
      have kk : ∀ b o, b ≠ p → H b = some o → H2 b = some o := fun b o hb e => hk2 b o hb (by rw [upd_ne (ne_of_none (hk1 b o hb e) hl)] <;> exact hk1 b o hb e)
      refine ⟨(m : Int), rfl, by omega, by omega, fun D0 n0 => ?_⟩
      refine lc_range (lo := 0) (n := m) (fun i H' => ∃ (cs : List Nat) (x3 z3 : Int), H' D0 = some (.lst (cs.map fun c => V.str ⟨#[c]⟩)) ∧ cs.length = i ∧ (∀ c ∈ cs, c ∈ sgn) ∧ Dice H' p x3 y z3 ∧ ∀ b o, b ≠ p → H b = some o → H' b = some o)
        ⟨[], x2, z2, upd_same, rfl, (by simp), D2.upd n0, fun b o hb e => by rw [upd_ne (ne_of_none (kk b o hb e) n0)] <;> exact kk b o hb e⟩ (fun i H' hi hP => ⟨rfl, ?_⟩) (fun H' hP => fin D0 m hm H' hP)
      refine ⟨_, rfl, _, rfl, go _ (by decide +kernel) (by decide +kernel) (by decide +kernel) D0 m x2 z2 H2 hm D2 kk n0 i H' hi hP⟩
end
end K1
/-! is_name, is_event, is_letter, are_names, as the program says them. -/
namespace K1
open PySem PySem.Spec PyProof.Rows L2 K0

abbrev sIsName : Stmt := top 10
abbrev sIsEvent : Stmt := top 11
abbrev sIsLetter : Stmt := top 12
abbrev sAre : Stmt := top 13

theorem tyx_same {K : PySem.W.Frag} {H H' : Hp} {v : V} {t : Value} (h : TyX K H v t) (s : Same H H') : TyX K H' v t := by
  cases h with
  | base b =>
    refine .base ?_
    cases b with
    | non => exact .non
    | bl x => exact .bl x
    | int i => exact .int i
    | str x => exact .str x
    | flt x => exact .flt x
    | lst e => exact .lst (s _ _ e)
    | frz e => exact .frz (s _ _ e)
    | tup e => exact .tup (s _ _ e)
    | dK e => exact .dK (s _ _ e)
    | dT e => exact .dT (s _ _ e)
    | ins e cl ha hn htk hm => exact .ins (s _ _ e) cl ha hn htk hm
  | byt b => exact .byt b
  | set e => exact .set (s _ _ e)
  | kList e c => exact .kList e c
  | kTuple e c => exact .kTuple e c
  | kDict e c => exact .kDict e c
  | fTuple e => exact .fTuple (s _ _ e)
  | fDict e => exact .fDict (s _ _ e)
/-- a value as a name: its text, if it is one -/
inductive Nv (K : PySem.W.Frag) (H : Hp) : V → Option PySem.Str → Prop
  | str (x : PySem.Str) (h : x.length ≤ 1000) : Nv K H (.str x) (some x)
  | no {v : V} {t : String} (ty : TyX K H v (.type t)) (h : kitB t "str" = some false) : Nv K H v none
theorem Nv.same {K : PySem.W.Frag} {H H' : Hp} {v : V} {o : Option PySem.Str} (h : Nv K H v o) (s : Same H H') : Nv K H' v o := by
  cases h with
  | str x h => exact .str x h
  | no ty h => exact .no (tyx_same ty s) h
def isNm : Option PySem.Str → Bool
  | some x => nm x
  | none => false
def spIsName (K : PySem.W.Frag) : Sp := fun vs H Q _ => ∃ (v : V) (o : Option PySem.Str), vs = [v] ∧ Nv K H v o ∧ Q (.bl (isNm o)) H
/-- a value as a tuple: its items, if it is one -/
inductive Tv (K : PySem.W.Frag) (H : Hp) : V → Option (List V) → Prop
  | tup {a : Addr} {xs : List V} (e : SqT K H a xs) (ty : TyX K H (.ref a) (.type "tuple")) : Tv K H (.ref a) (some xs)
  | no {v : V} {t : String} (ty : TyX K H v (.type t)) (h : kitB t "tuple" = some false) : Tv K H v none
theorem sqT_same {K : PySem.W.Frag} {H H' : Hp} {a : Addr} {xs : List V} (h : SqT K H a xs) (s : Same H H') : SqT K H' a xs := by
  rcases h with (h | ⟨o, h⟩) | h
  · exact .inl (.inl (s _ _ h))
  · exact .inl (.inr ⟨o, s _ _ h⟩)
  · exact .inr h
theorem Tv.same {K : PySem.W.Frag} {H H' : Hp} {v : V} {o : Option (List V)} (h : Tv K H v o) (s : Same H H') : Tv K H' v o := by
  cases h with
  | tup e ty => exact .tup (sqT_same e s) (tyx_same ty s)
  | no ty h => exact .no (tyx_same ty s) h
/-- a value as a tuple of names, with the answer -/
inductive Av (K : PySem.W.Frag) (H : Hp) : V → Bool → Prop
  | no {v : V} (h : Tv K H v none) : Av K H v false
  | tup {v : V} {xs : List V} {os : List (Option PySem.Str)} (h : Tv K H v (some xs)) (hs : Paired (Nv K H) xs os) (hl : xs.length ≤ 1000) : Av K H v (os.all isNm)
def spAre (K : PySem.W.Frag) : Sp := fun vs H Q _ => ∃ (v : V) (r : Bool), vs = [v] ∧ Av K H v r ∧ ∀ H', Same H H' → Q (.bl r) H'
/-- names that the top has and others use -/
structure Cons (mg : PySem.Str → Option Value) : Prop where
  ln : ∃ t, mg "LONGEST_NAME" = some (.int 8 t)
  mn : ∃ t, mg "MOST_NAMES" = some (.int 500 t)
  al : ∃ t, mg "ALPHABET" = some (.str alpha t)
theorem paired_at {α β : Type} {F : α → β → Prop} : ∀ {xs : List α} {os : List β} {i : Nat} {x : α}, Paired F xs os → xs[i]? = some x → ∃ o, os[i]? = some o ∧ F x o
  | _, _, _, _, .nil, h => by simp at h
  | _, _, 0, _, .cons h t, e => by simp at e; subst e; exact ⟨_, by simp, h⟩
  | _, _, i + 1, _, .cons h t, e => by simp at e; obtain ⟨o, e2, h2⟩ := paired_at t e; exact ⟨o, by simpa using e2, h2⟩
theorem paired_len {α β : Type} {F : α → β → Prop} : ∀ {xs : List α} {os : List β}, Paired F xs os → xs.length = os.length
  | _, _, .nil => rfl
  | _, _, .cons _ t => by simp [paired_len t]
theorem paired_map {α β : Type} {F G : α → β → Prop} (fg : ∀ a b, F a b → G a b) : ∀ {xs : List α} {os : List β}, Paired F xs os → Paired G xs os
  | _, _, .nil => .nil
  | _, _, .cons h t => .cons (fg _ _ h) (paired_map fg t)
section
variable {P : Program} {w : World} {K : PySem.W.Frag} {mg : PySem.Str → Option Value} {base : Heap}
theorem scIsName : FnScope ["value"] ["value"] (defScope sIsName) := ⟨rfl, rfl, rfl, by decide +kernel, rfl, by decide +kernel, by decide +kernel⟩
theorem ok_is_name {f : Addr} {fd : FuncData} (F : Fun K "is_name" "is_name" sIsName f fd) (T : Bare mg) (C : Cons mg) : FnOk P w K mg base CX0 1 f fd ["value"] (spIsName K) := by
  refine F.ok scIsName (fun vs H Q E h => ?_) (fun cdv A outer s H vs Q E hr h => ?_)
  · obtain ⟨v, o, rfl, _⟩ := h
    rfl
  · obtain ⟨v, o, rfl, N, q⟩ := h
    obtain ⟨tl, ml⟩ := C.ln
    refine ⟨_, (pss_cons (ps_if (PW.pt (pw_or (pt_not (pt_val (pe_callB call_isi (by rfl) T.isi (by decide +kernel) (pa_cons (pv 0) (pa_cons (pe_bltn (v := .ty "str") (by rfl) T.str (by decide +kernel) rfl) pa_nil))))) (pw_or1 (pt_not (pt_chain op_le op_le pe_int (pe_callB call_len_str (by rfl) T.len (by decide +kernel) (pa_cons (pv 0) pa_nil)) (pe_glob (v := .int 8) rfl ml ⟨_, rfl⟩)))))) (pss_one (ps_ret pe_bl)) pss_nil)
      (pss_one (ps_ret (pe_and (pe_bm0 PySem.F.plainAttrs_str PySem.F.slot_str_isascii PySem.F.type_str_isascii mt_isascii (pv 0)) (pe_and (pe_bm0 PySem.F.plainAttrs_str PySem.F.slot_str_isalpha PySem.F.type_str_isalpha mt_isalpha (pv 0)) (pe_one (pe_bm0 PySem.F.plainAttrs_str PySem.F.slot_str_islower PySem.F.type_str_islower mt_islower (pv 0)))))))), ?_⟩
    cases N with
    | no ty hk =>
      refine ⟨v, rfl, v, .ty "str", _, .type "str", false, rfl, .ty _, ty, kit_ty hk, false, rfl, ?_⟩
      exact q
    | str x hx =>
      refine ⟨_, rfl, _, .ty "str", _, .type "str", true, rfl, .ty _, .base (.str x), kit_ty (by decide +kernel), true, rfl, ?_⟩
      refine ⟨_, rfl, x, rfl, (by rw [sizeLine_eq]; omega), _, _, rfl, rfl, _, rfl, ?_⟩
      refine ite2 (fun h1 => ?_) (fun h1 => ?_)
      · refine ⟨_, _, rfl, rfl, _, rfl, ?_⟩
        have h1' : 1 ≤ x.length := by have := of_decide_eq_true h1; omega
        by_cases h2 : x.length ≤ 8
        · have e : decide ((x.length : Int) ≤ 8) = true := decide_eq_true (by omega)
          rw [e]
          refine ⟨_, rfl, rfl, x, rfl, rfl, trivial, _, rfl, ?_⟩
          have z := nm_prog h1' h2
          cases ha : Txt.isascii x with
          | false => rw [ha] at z; show Q (.bl false) H; rw [show isNm (some x) = false from z] at q; exact q
          | true =>
            refine ⟨_, rfl, rfl, x, rfl, rfl, trivial, _, rfl, ?_⟩
            cases hb : Txt.isalpha x with
            | false => rw [ha, hb] at z; show Q (.bl false) H; rw [show isNm (some x) = false from z] at q; exact q
            | true =>
              refine ⟨_, rfl, rfl, x, rfl, rfl, trivial, ?_⟩
              rw [ha, hb] at z
              rw [show isNm (some x) = Txt.islower x from z] at q
              exact q
        · have e : decide ((x.length : Int) ≤ 8) = false := decide_eq_false (by omega)
          rw [e]
          have z : isNm (some x) = false := by show nm x = false; unfold nm; rw [decide_eq_false h2, Bool.false_and, Bool.and_false]
          rw [z] at q
          exact q
      · have h1' : ¬ 1 ≤ x.length := by have := of_decide_eq_false (Bool.eq_false_iff.mpr h1); omega
        have z : isNm (some x) = false := by show nm x = false; unfold nm; rw [decide_eq_false h1', Bool.false_and]
        rw [z] at q
        exact ⟨_, rfl, q⟩
theorem scAre : FnScope ["value", "part"] ["value"] (defScope sAre) := ⟨rfl, rfl, rfl, by decide +kernel, rfl, by decide +kernel, by decide +kernel⟩
theorem take_map_snoc {α β : Type} {g : α → β} {l : List α} {i : Nat} {o : α} (h : l[i]? = some o) : (l.take i).map g ++ [g o] = (l.take (i + 1)).map g := by
  rw [List.take_add_one, h, List.map_append] <;> rfl
theorem ok_are {f fN : Addr} {fd fdN : FuncData} (F : Fun K "are_names" "are_names" sAre f fd) (T : Bare mg) (C : Cons mg) (FN : Fun K "is_name" "is_name" sIsName fN fdN) (bN : Binds K fdN ["value"] []) (mN : mg "is_name" = some (.ref fN)) : FnOk P w K mg base CX0 2 f fd ["value"] (spAre K) := by
  have GN : FnOk P w K mg base CX0 1 fN fdN ["value"] (spIsName K) := ok_is_name FN T C
  refine F.ok scAre (fun vs H Q E h => ?_) (fun cdv A outer s H vs Q E hr h => ?_)
  · obtain ⟨v, r, rfl, _⟩ := h
    rfl
  · obtain ⟨v, r, rfl, Ha, q⟩ := h
    refine ⟨_, (pss_one (ps_ret (pe_and (pe_callB call_isi (by rfl) T.isi (by decide +kernel) (pa_cons (pv 0) (pa_cons (pe_bltn (v := .ty "tuple") (by rfl) T.tup (by decide +kernel) rfl) pa_nil))) (pe_one (pe_callB (cr_all rfl) (by rfl) T.all (by decide +kernel) (pa_cons (pe_lc (own := [("part", 1)]) (g := gName 1) (tt := tYes) rfl scAre.nd (pi_tup (pv 0)) (blkOk_by (own := [("part", 1)]) (N := ["value", "part"]) (sc := defScope sAre) (by decide +kernel)) (fun _ _ _ _ _ => pg_name (i := 1) scAre.nd rfl (Or.inl rfl)) (fun _ _ _ _ _ => pts_nil) (fun _ _ _ _ _ => (pe_call GN hr (by rfl) mN FN.kp bN .nil pass0 (pa_cons (pv 1) pa_nil)))) pa_nil)))))), ?_⟩
    cases Ha with
    | no Hv =>
      cases Hv with
      | no ty hk => exact ⟨v, rfl, v, .ty "tuple", _, .type "tuple", false, rfl, .ty _, ty, kit_ty hk, false, rfl, q _ (Same.refl _)⟩
    | @tup xs os Hv hs hlen =>
      cases Hv with
      | @tup a _ e ty =>
        refine ⟨_, rfl, _, .ty "tuple", _, .type "tuple", true, rfl, .ty _, ty, kit_ty (by decide +kernel), true, rfl, ?_⟩
        refine ⟨_, rfl, a, rfl, ⟨_, e⟩, fun D n0 => ?_⟩
        have sD : ∀ o, Same H (upd H D o) := fun o b u e => by rw [upd_ne (ne_of_none e n0)] <;> exact e
        refine lc_tup (K := K) (a := a) (xs := xs) (fun i H' => H' D = some (.lst ((os.take i).map fun o => V.bl (isNm o))) ∧ ∀ b u, H b = some u → H' b = some u) ⟨upd_same, sD _⟩ (fun i H' _ hP => sqT_same e hP.2) (fun i x H' hx hP => ⟨rfl, ?_⟩) (fun H' hP => ?_)
        · obtain ⟨o, ho, hn⟩ := paired_at hs hx
          have hi : i < os.length := (List.getElem?_eq_some_iff.mp ho).1
          have hol : os.length ≤ 1000 := by rw [← paired_len hs]; exact hlen
          refine ⟨_, rfl, x, o, rfl, hn.same hP.2, _, hP.1, ?_, ?_, fun b u eb => ?_⟩
          · rw [List.length_map, List.length_take, sizeLine_eq]; omega
          · rw [upd_same]
            rw [take_map_snoc (g := fun o => V.bl (isNm o)) ho]
          · rw [upd_ne (ne_of_none eb n0)] <;> exact hP.2 b u eb
        · refine ⟨D, os.map isNm, rfl, SqL.of ?_, ?_⟩
          · rw [hP.1, List.map_map, paired_len hs, List.take_length] <;> rfl
          · rw [List.all_map]
            exact q _ hP.2
end
end K1
/-! Events and letters, as the program says them. -/
namespace K1
open PySem PySem.Spec PyProof.Rows L2 K0

abbrev sTurned : Stmt := top 14
abbrev sOther : Stmt := top 15
/-- X('m'), X under a class of the program's own, made to be raised -/
theorem pmk_exm {X : Cx} {C : Addr} {bmB : List Value} {B newId initId : String} {x : PySem.Str} {e : Expr} {ta : TE} {p pos : Pos} (F : ExcBaseFacts B newId initId bmB) (q : PySem.W.excInitIn X.K C bmB newId = true)
    (hi : PySem.W.findIn X.K (.ref C) "__init__" = some (some (.builtin initId))) (exC : PySem.W.subIn X.K (.ref C) (.type "BaseException") = some true) (tyC : PySem.W.typeIn X.K (.ref C) = some (.type "type")) (gC : X.mg x = some (.ref C)) (kC : PySem.W.keepIn X.K (.ref C) = true) (hg : Gl X x) (he : PE X e ta)
    (hs : starEach [e] X.env = (false, eval e X.env) :: starEach [] X.env := by rfl) (hdb : (x == ("__debug__" : PySem.Str)) = false := by decide) :
    PMk X (.Call (.Name x p) [e] [] pos) (fun σ H Q => ta σ H fun _ H1 => Q (.ref C) none H1) := by
  intro pins s σ H Q I h
  refine wpAny_Call_Name_kw (ld_glob I hg gC ?_ hdb)
  refine PySem.W.callWith_K (h₀ := X.base) I.ok.mod.kin kC ?_ hs (by rfl)
  rw [hs]
  show wpAny _ _ (spliced ((false, eval e X.env) :: backTo pos (starEach [] X.env))) _ _ s
  refine Calls.spliced_cons (thn (he.run pins s σ H _ I h) fun u s1 ⟨v, H1, I1, r1, q1⟩ => ?_)
  refine Calls.spliced_nil ⟨I1.kIn, ?_⟩
  show wpAny _ _ (call (.ref C) [u]) _ _ _
  obtain ⟨nm, N, qn, bs, bm, hdct, sn, sub, ab, col, dd, k0, k1, k2, k3, k5, hC, hT⟩ := PySem.W.excInit_of I1.kIn q
  have hl := PySem.W.looks_findIn (M := model X.prog X.w) I1.kIn hi
  obtain ⟨hp, g, d, tk, os⟩ := s1
  refine PySem.W.call_B F hT hC hl (by show 1 ≤ sizeLine; rw [sizeLine_eq]; omega) fun h' k ha ht => ?_
  have hsz : hp.objs.size ≤ hp.objs.size + 1 := Nat.le_succ _
  have nn : hp.get? (hp.objs.size + 1) = none := by
    cases e : hp.get? (hp.objs.size + 1) with
    | none => rfl
    | some o => exact absurd (show hp.objs.size + 1 < hp.objs.size from Heap.lt_size e) (by omega)
  exact ⟨hp.objs.size + 1, _, _, ⟨hp, g, d, tk, os⟩, H1, .ref C, none, rfl, I1, k, nn, ha, ⟨rfl, rfl⟩, rfl, rfl, I1.hok.fresh hsz, rfl, I1.bare, raises_own exC tyC, q1⟩
section
variable {X : Cx}
def rInDT (K : PySem.W.Frag) : R2 := fun x y H Q => ∃ d ds, Dp K H x d ∧ Dp K H y (.tuple ds) ∧ SeqAt.shaped d = true ∧ SeqAt.shaped (.tuple ds) = true ∧ Q (.bl (ds.any fun z => PyData.eqv z d)) H
theorem op_inDT (hu : X.A.units + 65 < cLine) : OpR X (compareOp .In) (rInDT X.K) := by
  intro pins s σ H x y v u Q I rx ry h
  obtain ⟨d, ds, hd, he, sd, se, q⟩ := h
  obtain ⟨as, r1⟩ := Dp.reads I d x v hd rx
  obtain ⟨bs, r2⟩ := Dp.reads I (.tuple ds) y u he ry
  refine SeqAt.in_tuple_reads r2 r1 (SeqAt.canLay_of_shaped se) (SeqAt.canLay_of_shaped sd) ?_ ⟨.bl _, H, I, rfl, q⟩
  have h1 := SeqAt.depth_of_shaped sd
  have h2 : min (PyData.depthAll ds) d.depth ≤ d.depth := Nat.min_le_right _ _
  omega
end
theorem sqL_same {K : PySem.W.Frag} {H H' : Hp} {a : Addr} {xs : List V} (h : SqL K H a xs) (s : Same H H') : SqL K H' a xs := by
  rcases h with (h | ⟨o, h⟩) | h
  · exact .inl (.inl (s _ _ h))
  · exact .inl (.inr ⟨o, s _ _ h⟩)
  · exact .inr h
mutual
theorem dp_same {K : PySem.W.Frag} {H H' : Hp} (s : Same H H') : ∀ {v : V} {d : PyData}, Dp K H v d → Dp K H' v d
  | _, _, .non => .non
  | _, _, .bl b => .bl b
  | _, _, .int i => .int i
  | _, _, .str x => .str x
  | _, _, .lst h hs => .lst (sqL_same h s) (dps_same s hs)
  | _, _, .tup h hs => .tup (sqT_same h s) (dps_same s hs)
theorem dps_same {K : PySem.W.Frag} {H H' : Hp} (s : Same H H') : ∀ {vs : List V} {ds : List PyData}, DpAll K H vs ds → DpAll K H' vs ds
  | _, _, .nil => .nil
  | _, _, .cons h t => .cons (dp_same s h) (dps_same s t)
end
def evd : PyData → Bool
  | .str z => decide (z = "send") || decide (z = "read")
  | _ => false
theorem evd_any (d : PyData) : ([PyData.str "send", PyData.str "read"].any fun z => PyData.eqv z d) = evd d := by
  cases d with
  | str z =>
    have h1 : PyData.eqv (.str "send") (.str z) = decide (z = "send") := by
      show (("send" : PySem.Str) == z) = _
      rw [Bool.eq_iff_iff, beq_iff_eq, decide_eq_true_eq]; exact eq_comm
    have h2 : PyData.eqv (.str "read") (.str z) = decide (z = "read") := by
      show (("read" : PySem.Str) == z) = _
      rw [Bool.eq_iff_iff, beq_iff_eq, decide_eq_true_eq]; exact eq_comm
    simp only [List.any_cons, List.any_nil, h1, h2, Bool.or_false, evd]
  | _ => rfl
/-- a value as an event, with the answer -/
inductive Ev (K : PySem.W.Frag) (H : Hp) : V → Bool → Prop
  | no {v : V} (h : Tv K H v none) : Ev K H v false
  | len {v : V} {xs : List V} (h : Tv K H v (some xs)) (hl : xs.length ≠ 2) (hz : xs.length ≤ 1000) : Ev K H v false
  | two {v x y : V} {d : PyData} {o : Option PySem.Str} (h : Tv K H v (some [x, y])) (hd : Dp K H x d) (sd : SeqAt.shaped d = true) (hn : Nv K H y o) : Ev K H v (evd d && isNm o)
def spIsEvent (K : PySem.W.Frag) : Sp := fun vs H Q _ => ∃ (v : V) (r : Bool), vs = [v] ∧ Ev K H v r ∧ ∀ H', Same H H' → Q (.bl r) H'
def ltr (ox oy oz : Option PySem.Str) : Bool := isNm ox && (isNm oy && (isNm oz && !decide (oy = oz)))
/-- data that can be laid, not deep -/
def Shp (d : PyData) : Prop := d.canLay0 = true ∧ d.depth ≤ 60
/-- a value as a letter, with the answer -/
inductive Lv (K : PySem.W.Frag) (H : Hp) : V → Bool → Prop
  | no {v : V} (h : Tv K H v none) : Lv K H v false
  | len {v : V} {xs : List V} (h : Tv K H v (some xs)) (hl : xs.length ≠ 3) (hz : xs.length ≤ 1000) : Lv K H v false
  | three {v x y z : V} {dx dy dz : PyData} {ox oy oz : Option PySem.Str} (h : Tv K H v (some [x, y, z])) (hx : Nv K H x ox) (hy : Nv K H y oy) (hz : Nv K H z oz)
      (px : Dp K H x dx) (py : Dp K H y dy) (pz : Dp K H z dz) (sx : Shp dx) (sy : Shp dy) (sz : Shp dz) : Lv K H v (ltr ox oy oz)
def spIsLetter (K : PySem.W.Frag) : Sp := fun vs H Q _ => ∃ (v : V) (r : Bool), vs = [v] ∧ Lv K H v r ∧ ∀ H', Same H H' → Q (.bl r) H'
def turn (z : PySem.Str) : PySem.Str := if z = "send" then "read" else "send"
def spTurned (K : PySem.W.Frag) : Sp := fun vs H Q _ => ∃ (a : Addr) (z n : PySem.Str), vs = [.ref a] ∧ SqT K H a [.str z, .str n] ∧ ∀ (p : Addr) (H' : Hp), H p = none → Same H H' → H' p = some (.tup [.str (turn z), .str n]) → Q (.ref p) H'
/-- a value as an event, and which -/
inductive Eo (K : PySem.W.Frag) (H : Hp) : V → Option (PySem.Str × PySem.Str) → Prop
  | no {v : V} (h : Ev K H v false) : Eo K H v none
  | yes {a : Addr} {z n : PySem.Str} (h : Tv K H (.ref a) (some [.str z, .str n])) (hz : evd (.str z) = true) (sd : SeqAt.shaped (.str z) = true) (hn : nm n = true) (hl : n.length ≤ 1000) : Eo K H (.ref a) (some (z, n))
theorem Eo.ev {K : PySem.W.Frag} {H : Hp} {v : V} {o : Option (PySem.Str × PySem.Str)} (h : Eo K H v o) : Ev K H v o.isSome := by
  cases h with
  | no h => exact h
  | @yes a z n h hz sd hn hl =>
    have := Ev.two (d := .str z) (o := some n) h (.str z) sd (.str n hl)
    rw [hz, show isNm (some n) = true from hn] at this
    exact this
theorem Ev.eo {K : PySem.W.Frag} {H : Hp} {v : V} {r : Bool} (h : Ev K H v r) : ∃ o, Eo K H v o ∧ o.isSome = r := by
  cases r with
  | false => exact ⟨none, .no h, rfl⟩
  | true =>
    generalize hr : true = r at h
    cases h with
    | no h => cases hr
    | len h _ _ => cases hr
    | @two x y d o h hd sd hn =>
      have e := hr.symm
      rw [Bool.and_eq_true] at e
      cases hn with
      | no ty hk => exact absurd e.2 (by simp [isNm])
      | str n hl =>
        cases hd with
        | str z =>
          cases h with
          | tup he ty => exact ⟨some (z, n), .yes (.tup he ty) e.1 sd e.2 hl, (by rw [e.1, e.2] <;> rfl)⟩
        | _ => exact absurd e.1 (by simp [evd])
def spOther (K : PySem.W.Frag) (C : Addr) : Sp := fun vs H Q E => ∃ (v : V) (o : Option (PySem.Str × PySem.Str)), vs = [v] ∧ Eo K H v o ∧ match o with
  | some (z, n) => ∀ (p : Addr) (H' : Hp), Same H H' → H' p = some (.tup [.str (turn z), .str n]) → Q (.ref p) H'
  | none => ∀ H', Same H H' → E (.ref C) none H'
/-- what the top says of InvalidName -/
structure ExN (K : PySem.W.Frag) (mg : PySem.Str → Option Value) (C : Addr) : Prop where
  g : mg "InvalidName" = some (.ref C)
  q : PySem.W.excInitIn K C [.type "ValueError", .type "Exception", .type "BaseException", .type "object"] "ValueError.__new__" = true
  i : PySem.W.findIn K (.ref C) "__init__" = some (some (.builtin "ValueError.__init__"))
  b : PySem.W.subIn K (.ref C) (.type "BaseException") = some true
  t : PySem.W.typeIn K (.ref C) = some (.type "type")
  k : PySem.W.keepIn K (.ref C) = true
section
variable {P : Program} {w : World} {K : PySem.W.Frag} {mg : PySem.Str → Option Value} {base : Heap}
theorem scIsEvent : FnScope ["value"] ["value"] (defScope sIsEvent) := ⟨rfl, rfl, rfl, by decide +kernel, rfl, by decide +kernel, by decide +kernel⟩
theorem ok_is_event {f fN : Addr} {fd fdN : FuncData} (F : Fun K "is_event" "is_event" sIsEvent f fd) (T : Bare mg) (C : Cons mg) (FN : Fun K "is_name" "is_name" sIsName fN fdN) (bN : Binds K fdN ["value"] []) (mN : mg "is_name" = some (.ref fN)) : FnOk P w K mg base CX0 3 f fd ["value"] (spIsEvent K) := by
  have GN : FnOk P w K mg base CX0 1 fN fdN ["value"] (spIsName K) := ok_is_name FN T C
  refine F.ok scIsEvent (fun vs H Q E h => ?_) (fun cdv A outer s H vs Q E hr h => ?_)
  · obtain ⟨v, r, rfl, _⟩ := h
    rfl
  · obtain ⟨v, r, rfl, Hv, q⟩ := h
    have hr1 : Room 1 _ := hr.mono (by decide)
    have hu : (A.deeper (envOfC "is_event" (defScope sIsEvent) s.heap.objs.size f cdv)).units + 65 < cLine := by have := hr.un; omega
    refine ⟨_, (pss_cons (ps_if (PW.pt (pw_or (pt_not (pt_val (pe_callB call_isi (by rfl) T.isi (by decide +kernel) (pa_cons (pv 0) (pa_cons (pe_bltn (v := .ty "tuple") (by rfl) T.tup (by decide +kernel) rfl) pa_nil))))) (pw_or1 (pt_cmpR op_ne (pe_callB call_len_seq (by rfl) T.len (by decide +kernel) (pa_cons (pv 0) pa_nil)) pe_int (nomark _))))) (pss_one (ps_ret pe_bl)) pss_nil)
      (pss_one (ps_ret (pe_and (pe_cmpR (op_inDT hu) (pe_ix ix_tup (pv 0) pe_int (fun _ _ => rfl)) (pe_tup (pa_cons pe_str (pa_cons pe_str pa_nil))) (by rfl)) (pe_one (pe_call GN hr1 (by rfl) mN FN.kp bN .nil pass0 (pa_cons (pe_ix ix_tup (pv 0) pe_int (fun _ _ => rfl)) pa_nil))))))), ?_⟩
    cases Hv with
    | no Hv =>
      cases Hv with
      | no ty hk => exact ⟨v, rfl, v, .ty "tuple", _, .type "tuple", false, rfl, .ty _, ty, kit_ty hk, false, rfl, q _ (Same.refl _)⟩
    | len Hv hl hz =>
      cases Hv with
      | @tup a _ e ty =>
        refine ⟨_, rfl, _, .ty "tuple", _, .type "tuple", true, rfl, .ty _, ty, kit_ty (by decide +kernel), true, rfl, ?_⟩
        refine ⟨_, rfl, a, _, rfl, .inr e, rfl, _, rfl, ?_⟩
        refine ite2 (fun h1 => q _ (Same.refl _)) (fun h1 => ?_)
        exfalso
        apply h1
        simp
        omega
    | @two x y d o Hv hd sd hn =>
      cases Hv with
      | @tup a _ e ty =>
        refine ⟨_, rfl, _, .ty "tuple", _, .type "tuple", true, rfl, .ty _, ty, kit_ty (by decide +kernel), true, rfl, ?_⟩
        refine ⟨_, rfl, a, _, rfl, .inr e, rfl, _, rfl, ?_⟩
        refine ite2 (fun h1 => absurd h1 (by simp)) (fun h1 => ?_)
        refine ⟨_, rfl, a, _, 0, x, rfl, rfl, e, rfl, (by show 2 ≤ sizeLine; decide), fun p np => ?_⟩
        have sp : Same H (upd H p (.tup [.str "send", .str "read"])) := fun b u eb => by rw [upd_ne (ne_of_none eb np)] <;> exact eb
        refine ⟨d, [.str "send", .str "read"], ?_, .tup (SqT.of upd_same) (.cons (.str _) (.cons (.str _) .nil)), sd, by decide +kernel, _, rfl, ?_⟩
        · exact dp_same sp hd
        · rw [evd_any]
          cases he : evd d with
          | false => rw [he] at q; exact q _ sp
          | true =>
            rw [he, Bool.true_and] at q
            exact ⟨_, rfl, a, _, 1, y, rfl, rfl, sqT_same e sp, rfl, y, o, rfl, hn.same sp, q _ sp⟩
theorem scIsLetter : FnScope ["value"] ["value"] (defScope sIsLetter) := ⟨rfl, rfl, rfl, by decide +kernel, rfl, by decide +kernel, by decide +kernel⟩
theorem ok_is_letter {f fA fN : Addr} {fd fdA fdN : FuncData} (F : Fun K "is_letter" "is_letter" sIsLetter f fd) (T : Bare mg) (C : Cons mg) (FN : Fun K "is_name" "is_name" sIsName fN fdN) (bN : Binds K fdN ["value"] []) (mN : mg "is_name" = some (.ref fN))
    (FA : Fun K "are_names" "are_names" sAre fA fdA) (bA : Binds K fdA ["value"] []) (mA : mg "are_names" = some (.ref fA)) : FnOk P w K mg base CX0 3 f fd ["value"] (spIsLetter K) := by
  have GA : FnOk P w K mg base CX0 2 fA fdA ["value"] (spAre K) := ok_are FA T C FN bN mN
  refine F.ok scIsLetter (fun vs H Q E h => ?_) (fun cdv A outer s H vs Q E hr h => ?_)
  · obtain ⟨v, r, rfl, _⟩ := h
    rfl
  · obtain ⟨v, r, rfl, Hv, q⟩ := h
    refine ⟨_, (pss_cons (ps_if (PW.pt (pw_or (pt_not (pt_val (pe_callB call_isi (by rfl) T.isi (by decide +kernel) (pa_cons (pv 0) (pa_cons (pe_bltn (v := .ty "tuple") (by rfl) T.tup (by decide +kernel) rfl) pa_nil))))) (pw_or1 (pt_cmpR op_ne (pe_callB call_len_seq (by rfl) T.len (by decide +kernel) (pa_cons (pv 0) pa_nil)) pe_int (nomark _))))) (pss_one (ps_ret pe_bl)) pss_nil)
      (pss_one (ps_ret (pe_and (pe_call GA hr (by rfl) mA FA.kp bA .nil pass0 (pa_cons (pv 0) pa_nil)) (pe_one (pe_cmpR op_ne (pe_ix ix_tup (pv 0) pe_int (fun _ _ => rfl)) (pe_ix ix_tup (pv 0) pe_int (fun _ _ => rfl)) (nomark _))))))), ?_⟩
    cases Hv with
    | no Hv =>
      cases Hv with
      | no ty hk => exact ⟨v, rfl, v, .ty "tuple", _, .type "tuple", false, rfl, .ty _, ty, kit_ty hk, false, rfl, q _ (Same.refl _)⟩
    | len Hv hl hz =>
      cases Hv with
      | @tup a _ e ty =>
        refine ⟨_, rfl, _, .ty "tuple", _, .type "tuple", true, rfl, .ty _, ty, kit_ty (by decide +kernel), true, rfl, ?_⟩
        refine ⟨_, rfl, a, _, rfl, .inr e, rfl, _, rfl, ?_⟩
        refine ite2 (fun h1 => q _ (Same.refl _)) (fun h1 => ?_)
        exfalso
        apply h1
        simp
        omega
    | @three x y z dx dy dz ox oy oz Hv hx hy hz px py pz sx sy sz =>
      have Hv' := Hv
      cases Hv with
      | @tup a _ e ty =>
        refine ⟨_, rfl, _, .ty "tuple", _, .type "tuple", true, rfl, .ty _, ty, kit_ty (by decide +kernel), true, rfl, ?_⟩
        refine ⟨_, rfl, a, _, rfl, .inr e, rfl, _, rfl, ?_⟩
        refine ite2 (fun h1 => absurd h1 (by simp)) (fun h1 => ?_)
        refine ⟨_, rfl, _, _, rfl, .tup Hv' (.cons hx (.cons hy (.cons hz .nil))) (by show 3 ≤ 1000; decide), fun H1 s1 => ⟨_, rfl, ?_⟩⟩
        have el : ltr ox oy oz = (([ox, oy, oz].all isNm) && !decide (oy = oz)) := by
          unfold ltr
          simp [Bool.and_assoc]
        rw [el] at q
        cases ha : [ox, oy, oz].all isNm with
        | false => rw [ha] at q; exact q _ s1
        | true =>
          rw [ha, Bool.true_and] at q
          have hb : isNm oy = true ∧ isNm oz = true := by simp at ha; exact ⟨ha.2.1, ha.2.2⟩
          cases hy with
          | no _ _ => cases hb.1
          | str b hb1 =>
            cases hz with
            | no _ _ => cases hb.2
            | str c hc1 =>
              refine ⟨_, rfl, a, _, 1, .str b, rfl, rfl, sqT_same e s1, rfl, _, rfl, a, _, 2, .str c, rfl, rfl, sqT_same e s1, rfl, rfl, ?_⟩
              have z1 : (!decide (some b = some c)) = !decide (V.str b = V.str c) := by
                congr 1
                by_cases h : b = c
                · subst h; simp
                · rw [decide_eq_false (by simpa using h), decide_eq_false (by intro z; cases z; exact h rfl)]
              rw [z1] at q
              exact q _ s1
theorem scTurned : FnScope ["event", "word", "name"] ["event"] (defScope sTurned) := ⟨rfl, rfl, rfl, by decide +kernel, rfl, by decide +kernel, by decide +kernel⟩
theorem ok_turned {f : Addr} {fd : FuncData} (F : Fun K "turned_event" "turned_event" sTurned f fd) : FnOk P w K mg base CX0 1 f fd ["event"] (spTurned K) := by
  refine F.ok scTurned (fun vs H Q E h => ?_) (fun cdv A outer s H vs Q E hr h => ?_)
  · obtain ⟨a, z, n, rfl, _⟩ := h
    rfl
  · obtain ⟨a, z, n, rfl, e, k⟩ := h
    refine ⟨_, (pss_cons (ps_asg (pv 0) (pg_tup rfl (pgs_cons (pg_name (i := 1) scTurned.nd rfl (.inl rfl)) (pgs_cons (pg_name (i := 2) scTurned.nd rfl (.inl rfl)) pgs_nil))))
      (pss_one (ps_ret (pe_tup (pa_cons (pe_ifExp (pt_cmpR op_eq (pv 1) pe_str (nomark _)) pe_str pe_str) (pa_cons (pv 2) pa_nil)))))), ?_⟩
    refine ⟨_, rfl, a, _, rfl, e, rfl, _, _, rfl, _, _, rfl, rfl, _, rfl, rfl, _, rfl, ?_⟩
    have fin : ∀ (y : PySem.Str), y = turn z → ∃ v, (some (V.str n) : Option V) = some v ∧ 2 ≤ sizeLine ∧ ∀ p, H p = none → Q (.ref p) (upd H p (.tup [.str y, v])) := fun y hy =>
      ⟨_, rfl, by decide, fun p np => k p _ np (fun b u eb => by rw [upd_ne (ne_of_none eb np)] <;> exact eb) (by rw [upd_same, hy])⟩
    refine ite2 (fun h1 => ?_) (fun h1 => ?_)
    · have h2 : z = "send" := by have h3 := of_decide_eq_true h1; cases h3; rfl
      obtain ⟨v, e1, e2, e3⟩ := fin "read" (by unfold turn; rw [if_pos h2])
      cases e1
      exact ⟨_, rfl, e2, e3⟩
    · have h2 : z ≠ "send" := fun h3 => h1 (decide_eq_true (by rw [h3]))
      obtain ⟨v, e1, e2, e3⟩ := fin "send" (by unfold turn; rw [if_neg h2])
      cases e1
      exact ⟨_, rfl, e2, e3⟩
theorem scOther : FnScope ["event"] ["event"] (defScope sOther) := ⟨rfl, rfl, rfl, by decide +kernel, rfl, by decide +kernel, by decide +kernel⟩
theorem ok_other {f fE fT fN C : Addr} {fd fdE fdT fdN : FuncData} (F : Fun K "other_event" "other_event" sOther f fd) (T : Bare mg) (c : Cons mg) (N : ExN K mg C) (FN : Fun K "is_name" "is_name" sIsName fN fdN) (bN : Binds K fdN ["value"] []) (mN : mg "is_name" = some (.ref fN))
    (FE : Fun K "is_event" "is_event" sIsEvent fE fdE) (bE : Binds K fdE ["value"] []) (mE : mg "is_event" = some (.ref fE)) (FT : Fun K "turned_event" "turned_event" sTurned fT fdT) (bT : Binds K fdT ["event"] []) (mT : mg "turned_event" = some (.ref fT)) : FnOk P w K mg base (L2.CX P w) 4 f fd ["event"] (spOther K C) := by
  have GE : FnOk P w K mg base CX0 3 fE fdE ["value"] (spIsEvent K) := ok_is_event FE T c FN bN mN
  have GT : FnOk P w K mg base CX0 1 fT fdT ["event"] (spTurned K) := ok_turned FT
  refine F.okX scOther (fun vs H Q E h => ?_) (fun cdv A outer s H vs Q E hr h => ?_)
  · obtain ⟨v, o, rfl, _⟩ := h
    rfl
  · obtain ⟨v, o, rfl, He, k⟩ := h
    have hr1 : Room 1 _ := hr.mono (by decide)
    refine ⟨_, (pss_cons (ps_if (pt_not (pt_val (pe_call GE hr (by rfl) mE FE.kp bE .nil pass0 (pa_cons (pv 0) pa_nil)))) (pss_one (ps_raise rfl (takes_of rfl rfl rfl rfl) (pmk_exm PySem.F.excBase_ValueError N.q N.i N.b N.t N.g N.k (by rfl) pe_str))) pss_nil)
      (pss_one (ps_ret (pe_call GT hr1 (by rfl) mT FT.kp bT .nil pass0 (pa_cons (pv 0) pa_nil))))), ?_⟩
    refine ⟨_, rfl, v, o.isSome, rfl, He.ev, fun H1 s1 => ⟨_, rfl, ?_⟩⟩
    cases He with
    | no h => exact k H1 s1
    | @yes a z n h hz sd hn hl =>
      cases h with
      | tup e ty => exact ⟨_, rfl, a, z, n, rfl, sqT_same e s1, fun p H2 np s2 e2 => k p H2 (s1.trans s2) e2⟩
end
end K1
/-! The name of a number. -/
namespace K1
open PySem PySem.Spec PyProof.Rows L2 K0

abbrev sNameAt : Stmt := top 16
def spNameAt : Sp := fun vs H Q _ => ∃ k : Nat, vs = [.int (k : Int)] ∧ k ≤ 1000 ∧ ∀ H', Same H H' → Q (.str (nmS k)) H'
theorem sn {H : Hp} {p : Addr} {o : HO} (h : H p = none) : Same H (upd H p o) := fun b u e => by rw [upd_ne (ne_of_none e h)] <;> exact e
theorem alpha_len : alpha.length = 26 := by decide +kernel
theorem alpha_at {i : Nat} (h : i < 26) : alpha.cps.toList[i]? = some (97 + i) := by
  rw [alpha_list, List.getElem?_map, List.getElem?_range h] <;> rfl
section
variable {P : Program} {w : World} {K : PySem.W.Frag} {mg : PySem.Str → Option Value} {base : Heap}
theorem scNameAt : FnScope ["number", "name", "left", "digit"] ["number"] (defScope sNameAt) := ⟨rfl, rfl, rfl, by decide +kernel, rfl, by decide +kernel, by decide +kernel⟩
theorem ok_name_at {f : Addr} {fd : FuncData} (F : Fun K "_name_at" "_name_at" sNameAt f fd) (T : Bare mg) (C : Cons mg) : FnOk P w K mg base CX0 1 f fd ["number"] spNameAt := by
  refine F.ok scNameAt (fun vs H Q E h => ?_) (fun cdv A outer s H vs Q E hr h => ?_)
  · obtain ⟨k, rfl, _⟩ := h
    rfl
  · obtain ⟨k, rfl, hk, q⟩ := h
    obtain ⟨ta, ma⟩ := C.al
    refine ⟨_, (pss_cons (ps_set (i := 1) scNameAt.nd rfl (Or.inl rfl) pe_str)
      (pss_cons (ps_set (i := 2) scNameAt.nd rfl (Or.inl rfl) (pe_op op_add (pv 0) pe_int))
      (pss_cons (ps_while PassesOwn.never (pt_cmpR op_gt (pv 2) pe_int (nomark _)) (pss_cons (ps_asg (pe_callB call_divmod (by rfl) T.dvm (by decide +kernel) (pa_cons (pe_op op_sub (pv 2) pe_int) (pa_cons (pe_callB call_len_str (by rfl) T.len (by decide +kernel) (pa_cons (pe_glob (v := .str alpha) rfl ma ⟨_, rfl⟩) pa_nil)) pa_nil))) (pg_tup rfl (pgs_cons (pg_name (i := 2) scNameAt.nd rfl (.inl rfl)) (pgs_cons (pg_name (i := 3) scNameAt.nd rfl (.inl rfl)) pgs_nil))))
      (pss_one (ps_set (i := 1) scNameAt.nd rfl (Or.inl rfl) (pe_op op_add_str (pe_ix ix_str (pe_glob (v := .str alpha) rfl ma ⟨_, rfl⟩) (pv 3) (fun _ _ => rfl)) (pv 1))))))
      (pss_one (ps_ret (pv 1)))))), ?_⟩
    refine ⟨_, rfl, _, _, rfl, rfl, ?_⟩
    refine ⟨fun m σ H' => ∃ (acc : List Nat) (dg : Option V), σ = [some (.int (k : Int)), some (.str ⟨acc.toArray⟩), some (.int (m : Int)), dg] ∧ go m m acc = nmL k ∧ acc.length + m ≤ k + 1 ∧ Same H H', ⟨k + 1, [], none, rfl, rfl, (by simp), Same.refl _⟩, ?_⟩
    rintro m σ H' ⟨acc, dg, rfl, hg, hl, hs⟩
    refine ⟨_, rfl, _, _, rfl, rfl, _, rfl, ?_⟩
    refine ite2 (fun h1 => ?_) (fun h1 => ?_)
    · have hm : 0 < m := by have h2 : (m : Int) > 0 := of_decide_eq_true h1; omega
      obtain ⟨l, rfl⟩ : ∃ l, m = l + 1 := ⟨m - 1, by omega⟩
      refine ⟨fun σ' H2 => ∃ m', m' < l + 1 ∧ ∃ (acc : List Nat) (dg : Option V), σ' = [some (.int (k : Int)), some (.str ⟨acc.toArray⟩), some (.int (m' : Int)), dg] ∧ go m' m' acc = nmL k ∧ acc.length + m' ≤ k + 1 ∧ Same H H2, fun σ' H2 h => h, ?_⟩
      refine ⟨_, rfl, _, _, rfl, rfl, alpha, rfl, (by rw [alpha_len, sizeLine_eq]; decide), ((l + 1 : Nat) : Int) - 1, (alpha.length : Int), rfl, ⟨by rw [alpha_len]; decide, by rw [alpha_len]; decide⟩, fun p np => ?_⟩
      refine ⟨p, _, rfl, SqT.of upd_same, rfl, _, _, rfl, _, _, rfl, rfl, ?_⟩
      have e26 : (alpha.length : Int) = 26 := by rw [alpha_len] <;> rfl
      have ed : (((l + 1 : Nat) : Int) - 1) / (alpha.length : Int) = ((l / 26 : Nat) : Int) := by rw [e26]; omega
      have em : (((l + 1 : Nat) : Int) - 1) % (alpha.length : Int) = ((l % 26 : Nat) : Int) := by rw [e26]; omega
      rw [ed, em]
      have h26 : l % 26 < 26 := Nat.mod_lt _ (by decide)
      refine ⟨_, rfl, alpha, _, 97 + l % 26, rfl, rfl, (by rw [alpha_len, sizeLine_eq]; decide), atI_nat (alpha_at h26), _, rfl, _, _, rfl, rfl, ?_, ?_⟩
      · show 1 + acc.length ≤ sizeLine
        rw [sizeLine_eq]; omega
      · refine ⟨l / 26, by omega, (97 + l % 26) :: acc, some (.int ((l % 26 : Nat) : Int)), ?_, ?_, ?_, hs.trans (sn np)⟩
        · show [some (V.int (k : Int)), some (V.str (⟨#[97 + l % 26]⟩ ++ ⟨acc.toArray⟩)), some (V.int ((l / 26 : Nat) : Int)), some (V.int ((l % 26 : Nat) : Int))] = _
          have e : ((⟨#[97 + l % 26]⟩ : PySem.Str) ++ ⟨acc.toArray⟩) = ⟨((97 + l % 26) :: acc).toArray⟩ := by
            show (⟨#[97 + l % 26] ++ acc.toArray⟩ : PySem.Str) = _
            congr 1
            simp
          rw [e]
        · rw [← hg]
          show _ = go l (l / 26) ((97 + l % 26) :: acc)
          exact go_fuel _ _ _ _ (Nat.le_refl _) (by omega)
        · simp only [List.length_cons]; omega
    · have hm : m = 0 := by have h2 : ¬ ((m : Int) > 0) := fun h => h1 (decide_eq_true h); omega
      subst hm
      refine ⟨_, rfl, ?_⟩
      have e : acc = nmL k := hg
      rw [e]
      exact q _ hs
end
end K1
/-! The first names that are free. -/
namespace K1
open PySem PySem.Spec PyProof.Rows L2 K0

abbrev sInt : Stmt := top 1
abbrev sNew : Stmt := top 17
abbrev sIn : Stmt := inClass (top 5) 0
section
variable {X : Cx}
/-- name = {..} on one line, the name a local -/
theorem ps_setDc {i : Nat} {y : PySem.Str} {py : Pos} {kx vx tg iter : Expr} {ifs : List Expr} {scope : Scope} {own : List (PySem.Str × Nat)} {pos spos : Pos} {wi : TI} {g : TG} {tt : TT} {tk tv : TE} (hc : X.calm = true) (hN : X.N.Nodup) (hy : X.N[i]? = some y) (hyl : X.env.scope.names.lookup y = some .local)
    (hsw : swapsWith (.DictComp kx vx [⟨tg, iter, ifs, 0⟩] scope pos) (some (.Name y py)) spos.line X.env = pure true) (hi : PI X tg iter wi) (ok : BlkOk X.N X.env.scope scope own)
    (hg : ∀ (s : Shared) (H : Hp) (C : Addr) (cl : List (PySem.Str × Addr)) (fp : List Addr), PG (X.blk s H scope (compEnvC scope cl C X.env) fp) tg g) (ht : ∀ (s : Shared) (H : Hp) (C : Addr) (cl : List (PySem.Str × Addr)) (fp : List Addr), PTs (X.blk s H scope (compEnvC scope cl C X.env) fp) ifs tt)
    (hk : ∀ (s : Shared) (H : Hp) (C : Addr) (cl : List (PySem.Str × Addr)) (fp : List Addr), PE (X.blk s H scope (compEnvC scope cl C X.env) fp) kx tk)
    (he : ∀ (s : Shared) (H : Hp) (C : Addr) (cl : List (PySem.Str × Addr)) (fp : List Addr), PE (X.blk s H scope (compEnvC scope cl C X.env) fp) vx tv) (hs : ∀ x, foldedSetIterable iter X.env x = pure x := by intro _; rfl) :
    PS X (.Assign [.Name y py] (.DictComp kx vx [⟨tg, iter, ifs, 0⟩] scope pos) spos) (tAsg (tDc wi g tt tk tv (own.map (·.2))) (gName i)) := by
  refine ⟨fun pins s σ H D I h => ?_⟩
  rw [exec_Assign_Name_used _ _ _ _ hsw]
  refine wpAny_bind (wpAny_standAt (wpAny_bind ?_))
  show wpAny _ X.A (do let _ ← comprehension (.DictComp kx vx [⟨tg, iter, ifs, 0⟩] scope pos) scope X.env (firstIterPos [⟨tg, iter, ifs, 0⟩] pos) newDict false (eval iter X.env) (some (assign (.Name y py) X.env))) _ _ s
  have h : tDc wi g tt tk tv (own.map (·.2)) σ H (fun x H1 => gName i x σ H1 D.nx) := h
  refine wpAny_bind (thn (dc_core (Qf := fun _ s' => SP X pins D .next s') hc hN I hi ok hg ht hk he hs h fun L C s' m H' I' q hn f => ?_) fun _ s' hq => wpAny_pure (wpAny_pure hq))
  show wpAny _ _ (assign (.Name y py) X.env (.ref L)) _ _ _
  refine wpAny_assign_Name (store_ok2 (v := V.ref L) I' hN hy (.inl hyl) rfl (fun s2 I2 ⟨a, sb, ha⟩ => ?_) (.inr hyl))
  obtain ⟨f0, f1, f2, f3, f4, f5⟩ := f
  have haC : C ≠ a := by
    rcases ha with z | z
    · rw [z]; exact f1
    · exact fun e => f4 y a z e.symm
  refine ⟨m, hn.sameBut sb haC, fun h3 sb3 => ?_⟩
  exact ⟨_, H', I2.turned (t' := s2.toks) (fun b o hb e => (sb3.2 b hb).trans e) f0 f1 f3 f4 f5, q⟩
theorem swd_true {kx vx : Expr} {gs : List Comprehension} {scope : Scope} {pos py : Pos} {y : PySem.Str} {l : Nat} {env : Env} (hk : env.scope.kind = .function) (hy : env.scope.names.lookup y = some .local) (hl : (py.line == pos.line) = true)
    (ha : (scope.names.any fun (n, k) => n == y && (k == .local || k == .cell)) = false) : swapsWith (.DictComp kx vx gs scope pos) (some (.Name y py)) l env = pure true := by
  have ky : env.kindOf y = some .local := hy
  have hb : env.blockKind = .function := by unfold Env.blockKind; rw [hk]; rfl
  unfold swapsWith
  simp only [hb, ky, ha, Expr.pos, hl]
  rfl
end
/-- a value as a whole number -/
inductive Iv (K : PySem.W.Frag) (H : Hp) : V → Option Int → Prop
  | int (i : Int) : Iv K H (.int i) (some i)
  | bl (b : Bool) : Iv K H (.bl b) none
  | no {v : V} {t : String} (ty : TyX K H v (.type t)) (h : kitB t "int" = some false) : Iv K H v none
theorem Iv.same {K : PySem.W.Frag} {H H' : Hp} {v : V} {o : Option Int} (h : Iv K H v o) (s : Same H H') : Iv K H' v o := by
  cases h with
  | int i => exact .int i
  | bl b => exact .bl b
  | no ty h => exact .no (tyx_same ty s) h
def spInt (K : PySem.W.Frag) : Sp := fun vs H Q _ => ∃ (v : V) (o : Option Int), vs = [v] ∧ Iv K H v o ∧ Q (.bl o.isSome) H
/-- a value as a tuple of names, and which -/
inductive Wo (K : PySem.W.Frag) (H : Hp) : V → Option (List PySem.Str) → Prop
  | no {v : V} (h : Av K H v false) : Wo K H v none
  | yes {a : Addr} {bar : List PySem.Str} (h : Tv K H (.ref a) (some (bar.map V.str))) (hn : ∀ x ∈ bar, nm x = true) (hl : bar.length ≤ 200) : Wo K H (.ref a) (some bar)
theorem nm_short {x : PySem.Str} (h : nm x = true) : x.length ≤ 1000 := by
  unfold nm at h; simp at h; omega
theorem Av.same {K : PySem.W.Frag} {H H' : Hp} {v : V} {r : Bool} (h : Av K H v r) (s : Same H H') : Av K H' v r := by
  cases h with
  | no h => exact .no (h.same s)
  | tup h hs hl => exact .tup (h.same s) (paired_map (fun a b q => q.same s) hs) hl
theorem Wo.same {K : PySem.W.Frag} {H H' : Hp} {v : V} {o : Option (List PySem.Str)} (h : Wo K H v o) (s : Same H H') : Wo K H' v o := by
  cases h with
  | no h => exact .no (h.same s)
  | yes h hn hl => exact .yes (h.same s) hn hl
theorem nvs_names {K : PySem.W.Frag} {H : Hp} : ∀ {bar : List PySem.Str}, (∀ x ∈ bar, nm x = true) → Paired (Nv K H) (bar.map V.str) (bar.map some) ∧ (bar.map some).all isNm = true
  | [], _ => ⟨.nil, rfl⟩
  | x :: r, h => by
    have hx := h x (by simp)
    obtain ⟨h1, h2⟩ := nvs_names (K := K) (H := H) (bar := r) fun y hy => h y (by simp [hy])
    refine ⟨.cons (.str x (nm_short hx)) h1, ?_⟩
    rw [List.map_cons, List.all_cons, h2, show isNm (some x) = true from hx] <;> rfl
theorem Wo.av {K : PySem.W.Frag} {H : Hp} {v : V} {o : Option (List PySem.Str)} (h : Wo K H v o) : Av K H v o.isSome := by
  cases h with
  | no h => exact h
  | yes h hn hl =>
    obtain ⟨h1, h2⟩ := nvs_names (K := K) (H := H) hn
    have z := Av.tup h h1 (by rw [List.length_map]; omega)
    rw [h2] at z
    exact z
/-- is the number one of 0 to 500 -/
def few : Option Int → Bool
  | some i => decide (0 ≤ i) && decide (i ≤ 500)
  | none => false
def spNew (K : PySem.W.Frag) (CN CI : Addr) : Sp := fun vs H Q E => ∃ (v u : V) (oi : Option Int) (ow : Option (List PySem.Str)), vs = [v, u] ∧ Iv K H v oi ∧ Wo K H u ow ∧
  (few oi = false → ∀ (d : Addr) (H' : Hp), Same H H' → H' d = some (.xd [("value", v)]) → E (.ref CI) (some d) H') ∧
  (few oi = true → ow = none → ∀ H', Same H H' → E (.ref CN) none H') ∧
  ∀ (m : Nat) (bar : List PySem.Str), oi = some (m : Int) → m ≤ 500 → ow = some bar → ∀ (p : Addr) (H' : Hp), Same H H' → H p = none → H' p = some (.tup ((due bar m).map V.str)) → Q (.ref p) H'
/-- what the top says of InvalidNumber -/
structure ExI (K : PySem.W.Frag) (mg : PySem.Str → Option Value) (C fI : Addr) : Prop where
  g : mg "InvalidNumber" = some (.ref C)
  own : OwnX K C "IndexError" "IndexError" "IndexError.__new__" "value"
  i : PySem.W.findIn K (.ref C) "__init__" = some (some (.ref fI))
  tI : PySem.W.typeIn K (.ref fI) = some (.type "function")
  vV : PySem.W.findCls K (.type "IndexError") (.type "type") "__init__" = some (.val (.builtin "IndexError.__init__"))
  b : PySem.W.subIn K (.ref C) (.type "BaseException") = some true
  t : PySem.W.typeIn K (.ref C) = some (.type "type")
  n : mg "IndexError" = none
/-- the dict of those that are taken -/
def tk (bar : List PySem.Str) : List (Key × V) := bar.foldl (fun kvs x => putK kvs (Sum.inr x) (.bl true)) []
theorem tk_snoc (l : List PySem.Str) (x : PySem.Str) : tk (l ++ [x]) = putK (tk l) (Sum.inr x) (.bl true) := by
  unfold tk
  rw [List.foldl_append] <;> rfl
theorem putK_len (kvs : List (Key × V)) (k : Key) (v : V) : (putK kvs k v).length ≤ kvs.length + 1 := length_putK kvs k v
theorem tk_go : ∀ (n : Nat) (l : List PySem.Str), l.length = n → (tk l).length ≤ n ∧ ∀ y, (valV (tk l) (Sum.inr y)).isSome = decide (y ∈ l)
  | 0, l, h => by
    obtain rfl := List.eq_nil_of_length_eq_zero h
    exact ⟨Nat.le_refl _, fun y => rfl⟩
  | n + 1, l, h => by
    have hne : l ≠ [] := fun e => by rw [e] at h; cases h
    obtain ⟨r, x, rfl⟩ : ∃ r x, l = r ++ [x] := ⟨l.dropLast, l.getLast hne, (List.dropLast_concat_getLast hne).symm⟩
    obtain ⟨h1, h2⟩ := tk_go n r (by simpa using h)
    refine ⟨?_, fun y => ?_⟩
    · rw [tk_snoc]
      exact Nat.le_trans (putK_len _ _ _) (by omega)
    · rw [tk_snoc, valV_put]
      by_cases e : y = x
      · subst e
        rw [if_pos rfl]
        simp
      · rw [if_neg (fun z => e (by cases z; rfl)), h2 y]
        congr 1
        simp [e]
section
variable {P : Program} {w : World} {K : PySem.W.Frag} {mg : PySem.Str → Option Value} {base : Heap}
theorem init_call {B n i : String} (c : ExcCallFacts B n i) : InitF B i := ⟨c.init, c.initEntry, c.initSplit, c.initKind, c.initRow, c.noStar⟩
theorem scIn : FnScope ["self", "value"] ["self", "value"] (defScope sIn) := ⟨rfl, rfl, rfl, by decide +kernel, rfl, by decide +kernel, by decide +kernel⟩
theorem ok_in {C f : Addr} {fd : FuncData} (F : Fun K "__init__" "InvalidNumber.__init__" sIn f fd) (N : ExI K mg C f) : FnOk P w K mg base CX0 1 f fd ["self", "value"] (spInit K "IndexError" "IndexError" "IndexError.__new__" "value") := by
  refine F.ok scIn (fun vs H Q E h => ?_) (fun cdv A outer s H vs Q E hr h => ?_)
  · obtain ⟨a, D, v, rfl, _⟩ := h
    rfl
  · obtain ⟨a, D, v, rfl, T, ha, k⟩ := h
    refine ⟨_, pss_cons (ps_expr (pe_binit (B := "IndexError") (Bn := "IndexError") (newId := "IndexError.__new__") (f := "value") (init_call PySem.F.excBase_IndexError.toExcCallFacts) (by rfl) N.n (by decide +kernel) (by decide) (by decide) (by kernel_rfl) (by decide +kernel) N.vV (by decide +kernel) (pa_cons (pv 0) (pa_cons (pv 1) pa_nil))))
      (pss_one (ps_first (B := "IndexError") (Bn := "IndexError") (newId := "IndexError.__new__") (f := "value") (pv 0) (pv 1))), ?_⟩
    exact ⟨_, rfl, _, rfl, a, D, [v], rfl, (by show 1 ≤ 1000; decide), T, ha, _, rfl, _, rfl, a, D, rfl, T, ha, fun dx n ne => k dx n ne⟩
theorem scInt : FnScope ["value"] ["value"] (defScope sInt) := ⟨rfl, rfl, rfl, by decide +kernel, rfl, by decide +kernel, by decide +kernel⟩
theorem ok_int {f : Addr} {fd : FuncData} (F : Fun K "is_integer" "is_integer" sInt f fd) (T : Bare mg) : FnOk P w K mg base CX0 1 f fd ["value"] (spInt K) := by
  refine F.ok scInt (fun vs H Q E h => ?_) (fun cdv A outer s H vs Q E hr h => ?_)
  · obtain ⟨v, o, rfl, _⟩ := h
    rfl
  · obtain ⟨v, o, rfl, N, q⟩ := h
    refine ⟨_, (pss_one (ps_ret (pe_and (pe_callB call_isi (by rfl) T.isi (by decide +kernel) (pa_cons (pv 0) (pa_cons (pe_bltn (v := .ty "int") (by rfl) T.int (by decide +kernel) rfl) pa_nil))) (pe_one (pe_not (pe_callB call_isi (by rfl) T.isi (by decide +kernel) (pa_cons (pv 0) (pa_cons (pe_bltn (v := .ty "bool") (by rfl) T.bool (by decide +kernel) rfl) pa_nil)))))))), ?_⟩
    cases N with
    | no ty hk => exact ⟨v, rfl, v, .ty "int", _, .type "int", false, rfl, .ty _, ty, kit_ty hk, false, rfl, q⟩
    | bl b => exact ⟨_, rfl, .bl b, .ty "int", _, .type "int", true, rfl, .ty _, .base (.bl b), kit_ty (by decide +kernel), true, rfl, _, rfl, .bl b, .ty "bool", _, .type "bool", true, rfl, .ty _, .base (.bl b), kit_ty (by decide +kernel), true, rfl, q⟩
    | int i => exact ⟨_, rfl, .int i, .ty "int", _, .type "int", true, rfl, .ty _, .base (.int i), kit_ty (by decide +kernel), true, rfl, _, rfl, .int i, .ty "bool", _, .type "bool", false, rfl, .ty _, .base (.int i), kit_ty (by decide +kernel), false, rfl, q⟩
abbrev nNew : List PySem.Str := ["many", "without", "name", "taken", "names", "number"]
theorem scNew : FnScope nNew ["many", "without"] (defScope sNew) := ⟨rfl, rfl, rfl, by decide +kernel, rfl, by decide +kernel, by decide +kernel⟩
theorem ok_new {f fS fN fA fT CN CI fI : Addr} {fd fdS fdN fdA fdT fdI : FuncData} {dvs : List V} {kws : List (PySem.Str × V)} (F : FunD K "new_names" "new_names" (defArgs sNew) (defBody sNew) (defScope sNew) dvs kws f fd) (T : Bare mg) (c : Cons mg) (XN : ExN K mg CN) (XI : ExI K mg CI fI)
    (FI : Fun K "__init__" "InvalidNumber.__init__" sIn fI fdI) (bI : Binds K fdI ["self", "value"] [])
    (FS : Fun K "is_integer" "is_integer" sInt fS fdS) (bS : Binds K fdS ["value"] []) (mS : mg "is_integer" = some (.ref fS)) (FN : Fun K "is_name" "is_name" sIsName fN fdN) (bN : Binds K fdN ["value"] []) (mN : mg "is_name" = some (.ref fN))
    (FA : Fun K "are_names" "are_names" sAre fA fdA) (bA : Binds K fdA ["value"] []) (mA : mg "are_names" = some (.ref fA)) (FT : Fun K "_name_at" "_name_at" sNameAt fT fdT) (bT : Binds K fdT ["number"] []) (mT : mg "_name_at" = some (.ref fT)) : FnOk P w K mg base (L2.CX P w) 3 f fd ["many", "without"] (spNew K CN CI) := by
  have GS : FnOk P w K mg base CX0 1 fS fdS ["value"] (spInt K) := ok_int FS T
  have GA : FnOk P w K mg base CX0 2 fA fdA ["value"] (spAre K) := ok_are FA T c FN bN mN
  have GT : FnOk P w K mg base CX0 1 fT fdT ["number"] spNameAt := ok_name_at FT T c
  have GI : FnOk P w K mg base CX0 1 fI fdI ["self", "value"] (spInit K "IndexError" "IndexError" "IndexError.__new__" "value") := ok_in FI XI
  refine F.ok scNew (fun vs H Q E h => ?_) (fun cdv A outer s H vs Q E hr h => ?_)
  · obtain ⟨v, u, oi, ow, rfl, _⟩ := h
    rfl
  · obtain ⟨v, u, oi, ow, rfl, Hi, Hw, k1, k2, k3⟩ := h
    have hr1 : Room 1 _ := hr.mono (by decide)
    obtain ⟨tm, mm⟩ := c.mn
    refine ⟨_, (pss_cons (ps_if (PW.pt (pw_or (pt_not (pt_val (pe_call GS hr1 (by rfl) mS FS.kp bS .nil pass0 (pa_cons (pv 0) pa_nil)))) (pw_or1 (pt_not (pt_chain op_le op_le pe_int (pv 0) (pe_glob (v := .int 500) rfl mm ⟨_, rfl⟩)))))) (pss_one (ps_raise rfl (takes_of rfl rfl rfl rfl) (pmk_exi (f := "value") PySem.F.excBase_IndexError XI.own XI.b XI.t XI.i XI.tI GI hr bI (by rfl) XI.g (pv 0)))) pss_nil)
      (pss_cons (ps_if (pt_not (pt_val (pe_call GA hr (by rfl) mA FA.kp bA .nil pass0 (pa_cons (pv 1) pa_nil)))) (pss_one (ps_raise rfl (takes_of rfl rfl rfl rfl) (pmk_exm PySem.F.excBase_ValueError XN.q XN.i XN.b XN.t XN.g XN.k (by rfl) pe_str))) pss_nil)
      (PSs.nox (pss_cons (ps_setDc (i := 3) (own := [("name", 2)]) (g := gName 2) (tt := tYes) rfl scNew.nd rfl rfl (swd_true rfl rfl rfl (by decide +kernel)) (pi_tup (pv 1)) (blkOk_by (own := [("name", 2)]) (N := nNew) (sc := defScope sNew) (by decide +kernel)) (fun _ _ _ _ _ => pg_name (i := 2) scNew.nd rfl (Or.inl rfl)) (fun _ _ _ _ _ => pts_nil) (fun _ _ _ _ _ => pv 2) (fun _ _ _ _ _ => pe_bl))
      (pss_cons (ps_set (i := 4) scNew.nd rfl (Or.inl rfl) (pe_lst pa_nil))
      (pss_cons (ps_set (i := 5) scNew.nd rfl (Or.inl rfl) pe_int)
      (pss_cons (ps_while PassesOwn.never (pt_cmpR op_lt (pe_callB call_len_seq (by rfl) T.len (by decide +kernel) (pa_cons (pv 4) pa_nil)) (pv 0) (nomark _)) (pss_cons (ps_set (i := 2) scNew.nd rfl (Or.inl rfl) (pe_call GT hr1 (by rfl) mT FT.kp bT .nil pass0 (pa_cons (pv 5) pa_nil)))
      (pss_cons (ps_if (pt_cmp (pc_dnotin (hu_of hr) (pv 2) (pv 3))) (pss_one (ps_expr (pe_bm PySem.F.plainAttrs_list PySem.F.slot_list_append PySem.F.type_list_append mt_append (pv 4) (pa_cons (pv 2) pa_nil)))) pss_nil)
      (pss_one (ps_aug (i := 5) scNew.nd rfl (.inl rfl) pe_int ip_add)))))
      (pss_one (ps_ret (pe_callTy call_tuple_of (by rfl) T.tup (by decide +kernel) (pa_cons (pv 4) pa_nil))))))))))), ?_⟩
    refine ⟨_, rfl, v, oi, rfl, Hi, _, rfl, ?_⟩
    cases Hi with
    | no ty hk => exact ⟨_, rfl, fun d nd => k1 rfl d _ (sn nd) upd_same⟩
    | bl b => exact ⟨_, rfl, fun d nd => k1 rfl d _ (sn nd) upd_same⟩
    | int i =>
      refine ⟨_, rfl, _, _, rfl, rfl, _, rfl, ?_⟩
      refine ite2 (fun h1 => ?_) (fun h1 => ?_)
      case refine_2 =>
        have f : few (some i) = false := by show (decide (0 ≤ i) && decide (i ≤ 500)) = _; rw [Bool.eq_false_iff.mpr h1, Bool.false_and]
        exact ⟨_, rfl, _, rfl, fun d nd => k1 f d _ (sn nd) upd_same⟩
      have i0 : 0 ≤ i := of_decide_eq_true h1
      refine ⟨_, _, rfl, rfl, _, rfl, ?_⟩
      by_cases h2 : i ≤ 500
      case neg =>
        have f : few (some i) = false := by show (decide (0 ≤ i) && decide (i ≤ 500)) = _; rw [decide_eq_false h2, Bool.and_false]
        rw [decide_eq_false h2]
        exact ⟨_, rfl, fun d nd => k1 f d _ (sn nd) upd_same⟩
      have f : few (some i) = true := by show (decide (0 ≤ i) && decide (i ≤ 500)) = _; rw [decide_eq_true i0, decide_eq_true h2] <;> rfl
      rw [decide_eq_true h2]
      obtain ⟨M, rfl⟩ : ∃ M : Nat, i = (M : Int) := ⟨i.toNat, by omega⟩
      have hM : M ≤ 500 := by omega
      refine ⟨_, rfl, u, ow.isSome, rfl, Hw.av, fun H1 s1 => ⟨_, rfl, ?_⟩⟩
      cases Hw with
      | no h => exact k2 f rfl H1 s1
      | @yes a bar h hn hl =>
        cases h with
        | tup e ty =>
          have eT := sqT_same e s1
          refine ⟨_, rfl, a, rfl, ⟨_, eT⟩, fun D nD => ?_⟩
          refine dc_tup (K := K) (a := a) (xs := bar.map V.str) (fun i H' => H' D = some (.dK (tk (bar.take i))) ∧ Same H1 H') ⟨upd_same, sn nD⟩ (fun i H' _ hP => sqT_same eT hP.2) (fun i x H' hx hP => ⟨rfl, ?_⟩) (fun H2 hP => ?_)
          · rw [List.getElem?_map] at hx
            cases ey : bar[i]? with
            | none => rw [ey] at hx; cases hx
            | some y =>
              rw [ey] at hx; cases hx
              have tg := tk_go _ (bar.take i) rfl
              refine ⟨_, rfl, _, Sum.inr y, rfl, hP.1, ?_, ?_, fun b o eb => ?_⟩
              · rw [sizeLine_eq]; have := tg.1; rw [List.length_take] at this; omega
              · rw [upd_same, List.take_add_one, ey]
                exact congrArg (fun z => some (HO.dK z)) (tk_snoc _ _).symm
              · rw [upd_ne (ne_of_none eb nD)] <;> exact hP.2 b o eb
          · have hD : H2 D = some (.dK (tk bar)) := by have z := hP.1; rw [List.length_map, List.take_length] at z; exact z
            refine ⟨(by show 0 ≤ sizeLine; omega), fun L nL => ?_⟩
            have sL : Same H1 (upd H2 L (.lst [])) := hP.2.trans (sn nL)
            refine ⟨fun m σ H' => ∃ (k : Nat) (nv : Option V), σ = [some (.int (M : Int)), some (.ref a), nv, some (.ref D), some (.ref L), some (.int (k : Int))] ∧ k + m = 702 ∧ H' D = some (.dK (tk bar)) ∧ H' L = some (.lst ((first bar k).map V.str)) ∧ (first bar k).length ≤ M ∧ Same H1 H',
              ⟨702, 0, none, rfl, rfl, sn nL _ _ hD, upd_same, Nat.zero_le _, sL⟩, ?_⟩
            rintro m σ H' ⟨k, nv, rfl, hkm, hD', hL', hle, hs⟩
            refine ⟨_, rfl, L, _, rfl, .inl (SqL.of hL'), _, rfl, _, _, rfl, rfl, _, rfl, ?_⟩
            have hlen : ((first bar k).map V.str).length = (first bar k).length := List.length_map ..
            refine ite2 (fun h3 => ?_) (fun h3 => ?_)
            · have h4 : (first bar k).length < M := by have h5 := of_decide_eq_true h3; rw [hlen] at h5; omega
              have hm : 0 < m := by
                rcases Nat.eq_zero_or_pos m with z | z
                · have hk : k = 702 := by omega
                  subst hk
                  have := first_long bar
                  omega
                · exact z
              refine ⟨fun σ' H2 => ∃ m', m' < m ∧ ∃ (k : Nat) (nv : Option V), σ' = [some (.int (M : Int)), some (.ref a), nv, some (.ref D), some (.ref L), some (.int (k : Int))] ∧ k + m' = 702 ∧ H2 D = some (.dK (tk bar)) ∧ H2 L = some (.lst ((first bar k).map V.str)) ∧ (first bar k).length ≤ M ∧ Same H1 H2, fun σ' H2 h => h, ?_⟩
              refine ⟨_, rfl, k, rfl, by omega, fun H3 s3 => ?_⟩
              refine ⟨_, rfl, _, rfl, D, _, rfl, DGet.k (k := Sum.inr (nmS k)) (s3 _ _ hD'), _, rfl, ?_⟩
              have hv := (tk_go _ bar rfl).2 (nmS k)
              rw [hv]
              refine ite2 (fun h6 => ?_) (fun h6 => ?_)
              · have nb : nmS k ∉ bar := by simpa using h6
                refine ⟨_, rfl, .inl ⟨rfl, _, SqL.of (s3 _ _ hL')⟩, _, rfl, L, _, _, rfl, rfl, s3 _ _ hL', (by rw [hlen, sizeLine_eq]; omega), ?_⟩
                refine ⟨_, rfl, _, _, rfl, rfl, m - 1, by omega, k + 1, _, rfl, by omega, ?_, ?_, ?_, fun b o eb => ?_⟩
                · rw [upd_ne (ne_of (s3 _ _ hD') (s3 _ _ hL') (by intro z; cases z))] <;> exact s3 _ _ hD'
                · rw [upd_same, first_succ, if_neg nb, List.map_append] <;> rfl
                · rw [first_succ, if_neg nb, List.length_append]; show _ + 1 ≤ M; omega
                · have e2 := s3 _ _ (hs b o eb)
                  rw [upd_ne (fun z => ?_)]
                  · exact e2
                  · subst z
                    have : H2 b = some o := hP.2 b o eb
                    rw [nL] at this; cases this
              · have nb : nmS k ∈ bar := by simpa using h6
                refine ⟨_, rfl, _, _, rfl, rfl, m - 1, by omega, k + 1, _, rfl, by omega, s3 _ _ hD', ?_, ?_, hs.trans s3⟩
                · rw [first_succ, if_pos nb, List.append_nil]; exact s3 _ _ hL'
                · rw [first_succ, if_pos nb, List.append_nil]; exact hle
            · have h4 : (first bar k).length = M := by
                have h5 : ¬ (((first bar k).map V.str).length : Int) < (M : Int) := fun z => h3 (decide_eq_true z)
                rw [hlen] at h5; omega
              refine ⟨_, rfl, L, _, rfl, .inl ⟨SqL.of hL', fun p np => ?_⟩⟩
              refine k3 M bar rfl hM rfl p _ ((s1.trans hs).trans (sn np)) ((s1.trans hs).free np) ?_
              rw [upd_same, due_of (by omega) h4]
end
end K1
/-! Names, events and letters, as the law says them. -/
namespace K1
open PySem PySem.Spec PyProof.Rows L2 K0

abbrev sLName : Stmt := top 24
abbrev sLEvent : Stmt := top 25
abbrev sLLetter : Stmt := top 26
theorem sn1 {H : Hp} {p : Addr} {o : HO} (h : H p = none) : Same H (upd H p o) := fun b u e => by rw [upd_ne (ne_of_none e h)] <;> exact e
theorem evd_list (d : PyData) : ([PyData.str "send", PyData.str "read"].any fun z => PyData.eqv z d) = evd d := evd_any d
abbrev Row3 := V × Option PySem.Str × PyData
def bads (l : List Row3) : List V := (l.filter fun p => !isNm p.2.1).map (·.1)
def badd (l : List Row3) : List PyData := (l.filter fun p => !isNm p.2.1).map (·.2.2)
theorem bads_dp {K : PySem.W.Frag} {H : Hp} : ∀ {l : List Row3}, (∀ p ∈ l, Dp K H p.1 p.2.2 ∧ Shp p.2.2) → DpAll K H (bads l) (badd l) ∧ PyData.canLayAll0 (badd l) = true ∧ PyData.depthAll (badd l) ≤ 60
  | [], _ => ⟨.nil, rfl, by simp [badd, PyData.depthAll]⟩
  | p :: r, h => by
    obtain ⟨h1, h2, h3⟩ := h p (by simp)
    obtain ⟨r1, r2, r3⟩ := bads_dp (l := r) fun q hq => h q (by simp [hq])
    cases e : isNm p.2.1 with
    | true =>
      have e1 : bads (p :: r) = bads r := by simp [bads, e]
      have e2 : badd (p :: r) = badd r := by simp [badd, e]
      rw [e1, e2]
      exact ⟨r1, r2, r3⟩
    | false =>
      have e1 : bads (p :: r) = p.1 :: bads r := by simp [bads, e]
      have e2 : badd (p :: r) = p.2.2 :: badd r := by simp [badd, e]
      rw [e1, e2]
      refine ⟨.cons h1 r1, ?_, ?_⟩
      · show (PyData.canLay0 _ && PyData.canLayAll0 _) = true
        rw [h2, r2] <;> rfl
      · show max _ _ ≤ 60
        omega
theorem bads_snoc (l : List Row3) (p : Row3) : bads (l ++ [p]) = bads l ++ (if isNm p.2.1 = true then [] else [p.1]) := by
  unfold bads
  rw [List.filter_append, List.map_append]
  cases e : isNm p.2.1 <;> simp [e]
theorem badd_nil (l : List Row3) : PyData.eqv (.list (badd l)) (.list []) = (l.map fun p => p.2.1).all isNm := by
  induction l with
  | nil => rfl
  | cons p r ih =>
    cases e : isNm p.2.1 with
    | true =>
      have e2 : badd (p :: r) = badd r := by simp [badd, e]
      rw [e2, ih, List.map_cons, List.all_cons, e, Bool.true_and]
    | false =>
      have e2 : badd (p :: r) = p.2.2 :: badd r := by simp [badd, e]
      rw [e2, List.map_cons, List.all_cons, e, Bool.false_and] <;> rfl
section
variable {P : Program} {w : World} {K : PySem.W.Frag} {mg : PySem.Str → Option Value} {base : Heap}
theorem scLName : FnScope ["_law_value"] ["_law_value"] (defScope sLName) := ⟨rfl, rfl, rfl, by decide +kernel, rfl, by decide +kernel, by decide +kernel⟩
theorem alpha_eq : (⟨#[97, 98, 99, 100, 101, 102, 103, 104, 105, 106, 107, 108, 109, 110, 111, 112, 113, 114, 115, 116, 117, 118, 119, 120, 121, 122]⟩ : PySem.Str) = alpha := by decide +kernel
theorem ok_lname {f : Addr} {fd : FuncData} (F : Fun K "_law_is_name" "_law_is_name" sLName f fd) (T : Bare mg) : FnOk P w K mg base CX0 1 f fd ["_law_value"] (spIsName K) := by
  refine F.ok scLName (fun vs H Q E h => ?_) (fun cdv A outer s H vs Q E hr h => ?_)
  · obtain ⟨v, o, rfl, _⟩ := h
    rfl
  · obtain ⟨v, o, rfl, N, q⟩ := h
    refine ⟨_, (pss_one (ps_ret (pe_and (pe_callB call_isi (by rfl) T.isi (by decide +kernel) (pa_cons (pv 0) (pa_cons (pe_bltn (v := .ty "str") (by rfl) T.str (by decide +kernel) rfl) pa_nil))) (pe_and (pe_chain op_lt op_lt pe_int (pe_callB call_len_str (by rfl) T.len (by decide +kernel) (pa_cons (pv 0) pa_nil)) pe_int) (pe_one (pe_cmpR op_eq (pe_bm PySem.F.plainAttrs_str PySem.F.slot_str_strip PySem.F.type_str_strip mt_stripChars (pv 0) (pa_cons pe_str pa_nil)) pe_str (nomark _))))))), ?_⟩
    cases N with
    | no ty hk => exact ⟨v, rfl, v, .ty "str", _, .type "str", false, rfl, .ty _, ty, kit_ty hk, false, rfl, q⟩
    | str x hx =>
      refine ⟨_, rfl, _, .ty "str", _, .type "str", true, rfl, .ty _, .base (.str x), kit_ty (by decide +kernel), true, rfl, ?_⟩
      refine ⟨_, rfl, x, rfl, (by rw [sizeLine_eq]; omega), _, _, rfl, rfl, _, rfl, ?_⟩
      refine ite2 (fun h1 => ?_) (fun h1 => ?_)
      · have h1' : 1 ≤ x.length := by have := of_decide_eq_true h1; omega
        refine ⟨_, _, rfl, rfl, _, rfl, ?_⟩
        by_cases h2 : x.length ≤ 8
        · have e : decide ((x.length : Int) < 9) = true := decide_eq_true (by omega)
          rw [e]
          refine ⟨_, rfl, rfl, x, alpha, rfl, rfl, (by rw [sizeLine_eq]; omega), rfl, ?_⟩
          have z := strip_nil h1'
          have z2 : isNm (some x) = x.cps.toList.all low := by show nm x = _; unfold nm; rw [decide_eq_true h1', decide_eq_true h2, Bool.true_and, Bool.true_and]
          have z3 : decide (V.str (Txt.stripChars x alpha) = V.str "") = decide (Txt.stripChars x alpha = "") := by
            by_cases h : Txt.stripChars x alpha = ""
            · rw [h, decide_eq_true rfl, decide_eq_true rfl]
            · rw [decide_eq_false h, decide_eq_false (by intro z; injection z with z; exact h z)]
          rw [z2, ← z, ← z3] at q
          exact q
        · have e : decide ((x.length : Int) < 9) = false := decide_eq_false (by omega)
          rw [e]
          have z : isNm (some x) = false := by show nm x = false; unfold nm; rw [decide_eq_false h2, Bool.false_and, Bool.and_false]
          rw [z] at q
          exact q
      · have h1' : ¬ 1 ≤ x.length := by have := of_decide_eq_false (Bool.eq_false_iff.mpr h1); omega
        have z : isNm (some x) = false := by show nm x = false; unfold nm; rw [decide_eq_false h1', Bool.false_and]
        rw [z] at q
        exact ⟨_, rfl, q⟩
theorem scLEvent : FnScope ["_law_value"] ["_law_value"] (defScope sLEvent) := ⟨rfl, rfl, rfl, by decide +kernel, rfl, by decide +kernel, by decide +kernel⟩
theorem ok_levent {f fN : Addr} {fd fdN : FuncData} (F : Fun K "_law_is_event" "_law_is_event" sLEvent f fd) (T : Bare mg) (FN : Fun K "_law_is_name" "_law_is_name" sLName fN fdN) (bN : Binds K fdN ["_law_value"] []) (mN : mg "_law_is_name" = some (.ref fN)) : FnOk P w K mg base CX0 3 f fd ["_law_value"] (spIsEvent K) := by
  have GN : FnOk P w K mg base CX0 1 fN fdN ["_law_value"] (spIsName K) := ok_lname FN T
  refine F.ok scLEvent (fun vs H Q E h => ?_) (fun cdv A outer s H vs Q E hr h => ?_)
  · obtain ⟨v, r, rfl, _⟩ := h
    rfl
  · obtain ⟨v, r, rfl, Hv, q⟩ := h
    have hr1 : Room 1 _ := hr.mono (by decide)
    have hu : (A.deeper (envOfC "_law_is_event" (defScope sLEvent) s.heap.objs.size f cdv)).units + 65 < cLine := by have := hr.un; omega
    refine ⟨_, (pss_one (ps_ret (pe_and (pe_callB call_isi (by rfl) T.isi (by decide +kernel) (pa_cons (pv 0) (pa_cons (pe_bltn (v := .ty "tuple") (by rfl) T.tup (by decide +kernel) rfl) pa_nil))) (pe_and (pe_cmpR op_eq (pe_callB call_len_seq (by rfl) T.len (by decide +kernel) (pa_cons (pv 0) pa_nil)) pe_int (nomark _)) (pe_and (pe_cmpR (op_inD hu) (pe_ix ix_tup (pv 0) pe_int (fun _ _ => rfl)) (pe_lst (pa_cons pe_str (pa_cons pe_str pa_nil))) (by rfl)) (pe_one (pe_call GN hr1 (by rfl) mN FN.kp bN .nil pass0 (pa_cons (pe_ix ix_tup (pv 0) pe_int (fun _ _ => rfl)) pa_nil)))))))), ?_⟩
    cases Hv with
    | no Hv =>
      cases Hv with
      | no ty hk => exact ⟨v, rfl, v, .ty "tuple", _, .type "tuple", false, rfl, .ty _, ty, kit_ty hk, false, rfl, q _ (Same.refl _)⟩
    | @len xs Hv hl hz =>
      cases Hv with
      | @tup a _ e ty =>
        refine ⟨_, rfl, _, .ty "tuple", _, .type "tuple", true, rfl, .ty _, ty, kit_ty (by decide +kernel), true, rfl, ?_⟩
        refine ⟨_, rfl, a, _, rfl, .inr e, rfl, _, rfl, ?_⟩
        have z : decide (V.int (xs.length : Int) = V.int 2) = false := decide_eq_false (by intro z; injection z with z; omega)
        rw [z]
        exact q _ (Same.refl _)
    | @two x y d o Hv hd sd hn =>
      cases Hv with
      | @tup a _ e ty =>
        refine ⟨_, rfl, _, .ty "tuple", _, .type "tuple", true, rfl, .ty _, ty, kit_ty (by decide +kernel), true, rfl, ?_⟩
        refine ⟨_, rfl, a, _, rfl, .inr e, rfl, _, rfl, ?_⟩
        have z : decide (V.int (([x, y] : List V).length : Int) = V.int 2) = true := decide_eq_true rfl
        rw [z]
        refine ⟨_, rfl, a, _, 0, x, rfl, rfl, e, rfl, (by show 2 ≤ sizeLine; decide), fun p np => ?_⟩
        have sp : Same H (upd H p (.lst [.str "send", .str "read"])) := fun b u eb => by rw [upd_ne (ne_of_none eb np)] <;> exact eb
        refine ⟨d, [.str "send", .str "read"], dp_same sp hd, .lst (SqL.of upd_same) (.cons (.str _) (.cons (.str _) .nil)), sd, by decide +kernel, _, rfl, ?_⟩
        rw [evd_any]
        cases he : evd d with
        | false => rw [he] at q; exact q _ sp
        | true =>
          rw [he, Bool.true_and] at q
          exact ⟨_, rfl, a, _, 1, y, rfl, rfl, sqT_same e sp, rfl, y, o, rfl, hn.same sp, q _ sp⟩
abbrev nLL : List PySem.Str := ["_law_value", "_law_one"]
theorem scLLetter : FnScope nLL ["_law_value"] (defScope sLLetter) := ⟨rfl, rfl, rfl, by decide +kernel, rfl, by decide +kernel, by decide +kernel⟩
theorem ok_lletter {f fN : Addr} {fd fdN : FuncData} (F : Fun K "_law_is_letter" "_law_is_letter" sLLetter f fd) (T : Bare mg) (FN : Fun K "_law_is_name" "_law_is_name" sLName fN fdN) (bN : Binds K fdN ["_law_value"] []) (mN : mg "_law_is_name" = some (.ref fN)) : FnOk P w K mg base CX0 3 f fd ["_law_value"] (spIsLetter K) := by
  have GN : FnOk P w K mg base CX0 1 fN fdN ["_law_value"] (spIsName K) := ok_lname FN T
  refine F.ok scLLetter (fun vs H Q E h => ?_) (fun cdv A outer s H vs Q E hr h => ?_)
  · obtain ⟨v, r, rfl, _⟩ := h
    rfl
  · obtain ⟨v, r, rfl, Hv, q⟩ := h
    have hr1 : Room 1 _ := hr.mono (by decide)
    have hu : (A.deeper (envOfC "_law_is_letter" (defScope sLLetter) s.heap.objs.size f cdv)).units + 64 < cLine := by have := hr.un; omega
    refine ⟨_, (pss_cons (ps_if (PW.pt (pw_or (pt_not (pt_val (pe_callB call_isi (by rfl) T.isi (by decide +kernel) (pa_cons (pv 0) (pa_cons (pe_bltn (v := .ty "tuple") (by rfl) T.tup (by decide +kernel) rfl) pa_nil))))) (pw_or (pt_cmpR op_ne (pe_callB call_len_seq (by rfl) T.len (by decide +kernel) (pa_cons (pv 0) pa_nil)) pe_int (nomark _)) (pw_or1 (pt_cmpR (op_neD hu) (pe_lc (own := [("_law_one", 1)]) (g := gName 1)  rfl scLLetter.nd (pi_tup (pv 0)) (blkOk_by (own := [("_law_one", 1)]) (N := nLL) (sc := defScope sLLetter) (by decide +kernel)) (fun _ _ _ _ _ => pg_name (i := 1) scLLetter.nd rfl (Or.inl rfl)) (fun _ _ _ _ _ => (pts_one (pt_not (pt_val (pe_call GN hr1 (by rfl) mN FN.kp bN .nil pass0 (pa_cons (pv 1) pa_nil)))))) (fun _ _ _ _ _ => (pv 1))) (pe_lst pa_nil) (nomark _)))))) (pss_one (ps_ret pe_bl)) pss_nil)
      (pss_one (ps_ret (pe_cmpR op_ne (pe_ix ix_tup (pv 0) pe_int (fun _ _ => rfl)) (pe_ix ix_tup (pv 0) pe_int (fun _ _ => rfl)) (nomark _))))), ?_⟩
    cases Hv with
    | no Hv =>
      cases Hv with
      | no ty hk => exact ⟨v, rfl, v, .ty "tuple", _, .type "tuple", false, rfl, .ty _, ty, kit_ty hk, false, rfl, q _ (Same.refl _)⟩
    | len Hv hl hz =>
      cases Hv with
      | @tup a _ e ty =>
        refine ⟨_, rfl, _, .ty "tuple", _, .type "tuple", true, rfl, .ty _, ty, kit_ty (by decide +kernel), true, rfl, ?_⟩
        refine ⟨_, rfl, a, _, rfl, .inr e, rfl, _, rfl, ?_⟩
        refine ite2 (fun h1 => q _ (Same.refl _)) (fun h1 => ?_)
        exfalso
        apply h1
        simp
        omega
    | @three x y z dx dy dz ox oy oz Hv hx hy hz px py pz sx sy sz =>
      cases Hv with
      | @tup a _ e ty =>
        refine ⟨_, rfl, _, .ty "tuple", _, .type "tuple", true, rfl, .ty _, ty, kit_ty (by decide +kernel), true, rfl, ?_⟩
        refine ⟨_, rfl, a, _, rfl, .inr e, rfl, _, rfl, ?_⟩
        refine ite2 (fun h1 => absurd h1 (by simp)) (fun h1 => ?_)
        refine ⟨_, rfl, a, rfl, ⟨_, e⟩, fun D n0 => ?_⟩
        have el : ltr ox oy oz = (([ox, oy, oz].all isNm) && !decide (oy = oz)) := by
          unfold ltr
          simp [Bool.and_assoc]
        rw [el] at q
        refine lc_tup (K := K) (a := a) (xs := [x, y, z]) (fun i H' => H' D = some (.lst (bads (([(x, ox, dx), (y, oy, dy), (z, oz, dz)] : List Row3).take i))) ∧ Same H H') ⟨upd_same, fun b u eb => by rw [upd_ne (ne_of_none eb n0)] <;> exact eb⟩ (fun i H' _ hP => sqT_same e hP.2) (fun i v H' hv hP => ⟨rfl, ?_⟩) (fun H1 hP => ?_)
        · obtain ⟨p, hp, hv, hn⟩ : ∃ p : Row3, ([(x, ox, dx), (y, oy, dy), (z, oz, dz)] : List Row3)[i]? = some p ∧ v = p.1 ∧ Nv K H v p.2.1 := match i, hv with
            | 0, hv => by cases hv; exact ⟨_, rfl, rfl, hx⟩
            | 1, hv => by cases hv; exact ⟨_, rfl, rfl, hy⟩
            | 2, hv => by cases hv; exact ⟨_, rfl, rfl, hz⟩
            | i + 3, hv => by simp at hv
          refine ⟨_, rfl, v, p.2.1, rfl, hn.same hP.2, _, rfl, ?_⟩
          have et : ([(x, ox, dx), (y, oy, dy), (z, oz, dz)] : List Row3).take (i + 1) = ([(x, ox, dx), (y, oy, dy), (z, oz, dz)] : List Row3).take i ++ [p] := by rw [List.take_add_one, hp] <;> rfl
          have eb : bads (([(x, ox, dx), (y, oy, dy), (z, oz, dz)] : List Row3).take (i + 1)) = bads (([(x, ox, dx), (y, oy, dy), (z, oz, dz)] : List Row3).take i) ++ (if isNm p.2.1 = true then [] else [p.1]) := by
            rw [et, bads_snoc]
          have hlen : (bads (([(x, ox, dx), (y, oy, dy), (z, oz, dz)] : List Row3).take i)).length ≤ 3 := by
            unfold bads
            rw [List.length_map]
            refine Nat.le_trans (List.length_filter_le _ _) ?_
            rw [List.length_take]
            show min i 3 ≤ 3
            omega
          rw [eb]
          cases isNm p.2.1 with
          | true => exact ⟨by rw [if_pos rfl, List.append_nil]; exact hP.1, hP.2⟩
          | false =>
            refine ⟨_, rfl, _, hP.1, (by rw [sizeLine_eq]; omega), ?_, fun b o ebb => ?_⟩
            · rw [upd_same, hv] <;> rfl
            · rw [upd_ne (ne_of_none ebb n0)] <;> exact hP.2 b o ebb
        · refine ⟨(by show 0 ≤ sizeLine; omega), fun l nl => ?_⟩
          have sl := hP.2.trans (sn1 (o := .lst []) nl)
          obtain ⟨b1, b2, b3⟩ := bads_dp (K := K) (H := upd H1 l (.lst [])) (l := [(x, ox, dx), (y, oy, dy), (z, oz, dz)]) (by
            intro p hp
            simp only [List.mem_cons, List.not_mem_nil, or_false] at hp
            rcases hp with rfl | rfl | rfl
            · exact ⟨dp_same sl px, sx⟩
            · exact ⟨dp_same sl py, sy⟩
            · exact ⟨dp_same sl pz, sz⟩)
          have hD : (upd H1 l (.lst [])) D = some (.lst (bads [(x, ox, dx), (y, oy, dy), (z, oz, dz)])) := sn1 nl _ _ hP.1
          have sh : SeqAt.shaped (.list (badd [(x, ox, dx), (y, oy, dy), (z, oz, dz)])) = true := by
            unfold SeqAt.shaped
            rw [Bool.and_eq_true]
            exact ⟨b2, decide_eq_true (by show PyData.depthAll _ + 1 ≤ 64; omega)⟩
          refine ⟨_, _, .lst (SqL.of hD) b1, .lst (SqL.of upd_same) .nil, sh, by decide +kernel, _, rfl, ?_⟩
          rw [badd_nil]
          show if (!([ox, oy, oz].all isNm)) = true then _ else _
          cases ha : [ox, oy, oz].all isNm with
          | false => rw [ha] at q; exact q _ sl
          | true =>
            rw [ha, Bool.true_and] at q
            have hb : isNm oy = true ∧ isNm oz = true := by simp at ha; exact ⟨ha.2.1, ha.2.2⟩
            cases hy with
            | no _ _ => cases hb.1
            | str b hb1 =>
              cases hz with
              | no _ _ => cases hb.2
              | str c hc1 =>
                refine ⟨_, rfl, a, _, 1, .str b, rfl, rfl, sqT_same e sl, rfl, _, rfl, a, _, 2, .str c, rfl, rfl, sqT_same e sl, rfl, rfl, ?_⟩
                have z1 : (!decide (some b = some c)) = !decide (V.str b = V.str c) := by
                  congr 1
                  by_cases h : b = c
                  · subst h; simp
                  · rw [decide_eq_false (by simpa using h), decide_eq_false (by intro z; cases z; exact h rfl)]
                rw [z1] at q
                exact q _ sl
end
end K1
/-! The first names, as the law makes them. -/
namespace K1
open PySem PySem.Spec PyProof.Rows L2 K0

abbrev sFirst : Stmt := top 28
abbrev sLonger : Stmt := top 29
abbrev nLonger : List PySem.Str := ["_law_lines", "_law_letters", "_law_found", "_law_line", "_law_sign"]
abbrev nFirst : List PySem.Str := ["_law_total", "_law_barred", "_law_letters", "_law_lines", "_law_found", "_law_line"]
def spLonger (K : PySem.W.Frag) : Sp := fun vs H Q _ => ∃ (a : Addr) (ls : List PySem.Str), vs = [.ref a, .str alpha] ∧ SqL K H a (ls.map V.str) ∧ ls.length ≤ 26 ∧ (∀ l ∈ ls, l.length ≤ 10) ∧
  ∀ (p : Addr) (H' : Hp), Same H H' → H p = none → H' p = some (.lst ((longer ls).map V.str)) → Q (.ref p) H'
def spFirst (K : PySem.W.Frag) : Sp := fun vs H Q _ => ∃ (m : Nat) (b : Addr) (bar : List PySem.Str), vs = [.int (m : Int), .ref b] ∧ m ≤ 500 ∧ SqT K H b (bar.map V.str) ∧ bar.length ≤ 200 ∧
  ∀ (p : Addr) (H' : Hp), Same H H' → H p = none → H' p = some (.tup ((due bar m).map V.str)) → Q (.ref p) H'
theorem longer_len (ls : List PySem.Str) : (longer ls).length = 26 * ls.length := by
  unfold longer
  induction ls with
  | nil => rfl
  | cons l r ih => rw [List.flatMap_cons, List.length_append, ih, List.length_map, List.length_range, List.length_cons]; omega
theorem longer_snoc (ls : List PySem.Str) (l : PySem.Str) : longer (ls ++ [l]) = longer ls ++ (List.range 26).map fun i => (⟨l.cps ++ #[97 + i]⟩ : PySem.Str) := by
  unfold longer
  rw [List.flatMap_append, List.flatMap_cons, List.flatMap_nil, List.append_nil]
theorem inV_str (y : PySem.Str) : ∀ bar : List PySem.Str, inV (.str y) (bar.map V.str) = decide (y ∈ bar)
  | [] => rfl
  | x :: r => by
    have ih := inV_str y r
    unfold inV at ih ⊢
    rw [List.map_cons, List.any_cons, ih]
    show ((x == y) || decide (y ∈ r)) = _
    by_cases h : x = y
    · subst h; simp
    · have h1 : (x == y) = false := beq_eq_false_iff_ne.mpr h
      have h2 : ¬ y = x := fun z => h z.symm
      rw [h1, Bool.false_or]
      congr 1
      simp [h2]
theorem flat_strs (bar : List PySem.Str) : (bar.map V.str).all flatV = true := by
  rw [List.all_map, List.all_eq_true]
  exact fun _ _ => rfl
/-- how far: the turns left, the names looked at, the last lines -/
inductive Stg : Nat → Nat → List PySem.Str → Prop
  | a : Stg 2 0 [⟨#[]⟩]
  | b : Stg 1 26 ((List.range 26).map nmS)
  | c : Stg 0 702 ((List.range 676).map fun i => nmS (26 + i))
theorem Stg.short {m k : Nat} {ls : List PySem.Str} (h : Stg (m + 1) k ls) : ls.length ≤ 26 ∧ ∀ l ∈ ls, l.length ≤ 10 := by
  cases h with
  | a => exact ⟨by decide, by decide +kernel⟩
  | b =>
    refine ⟨by simp, ?_⟩
    have z : (((List.range 26).map nmS).all fun l => decide (l.length ≤ 10)) = true := by decide +kernel
    exact fun l hl => of_decide_eq_true (List.all_eq_true.mp z l hl)
theorem Stg.next {m k : Nat} {ls : List PySem.Str} (h : Stg (m + 1) k ls) : ∃ k', Stg m k' (longer ls) ∧ ∀ bar, first bar k' = first bar k ++ (longer ls).filter fun x => decide (x ∉ bar) := by
  cases h with
  | a => exact ⟨26, by rw [longer_one]; exact .b, fun bar => by rw [longer_one, first_zero, first_26] <;> rfl⟩
  | b => exact ⟨702, by rw [longer_two]; exact .c, fun bar => by rw [longer_two, first_702]⟩
theorem Stg.le {m k : Nat} {ls : List PySem.Str} (h : Stg m k ls) : k ≤ 702 := by cases h <;> decide
theorem first_few (bar : List PySem.Str) (k : Nat) : (first bar k).length ≤ k := by
  unfold first
  refine Nat.le_trans (List.length_filter_le _ _) ?_
  simp
theorem cut_to (xs : List V) (m : Nat) : cutV xs none (some (m : Int)) = xs.take m := by
  unfold cutV
  rw [HT.sIx_none, HT.sIx_nat, List.drop_zero, Nat.sub_zero]
  rw [List.take_eq_take_iff] <;> omega
section
variable {P : Program} {w : World} {K : PySem.W.Frag} {mg : PySem.Str → Option Value} {base : Heap}
theorem scLonger : FnScope nLonger ["_law_lines", "_law_letters"] (defScope sLonger) := ⟨rfl, rfl, rfl, by decide +kernel, rfl, by decide +kernel, by decide +kernel⟩
theorem ok_longer {f : Addr} {fd : FuncData} (F : Fun K "_law_longer" "_law_longer" sLonger f fd) : FnOk P w K mg base CX0 1 f fd ["_law_lines", "_law_letters"] (spLonger K) := by
  refine F.ok scLonger (fun vs H Q E h => ?_) (fun cdv A outer s H vs Q E hr h => ?_)
  · obtain ⟨a, ls, rfl, _⟩ := h
    rfl
  · obtain ⟨a, ls, rfl, hS, hn, hl, k⟩ := h
    refine ⟨_, (pss_cons (ps_set (i := 2) scLonger.nd rfl (Or.inl rfl) (pe_lst pa_nil))
      (pss_cons (ps_for PassesOwn.never rfl (pi_list (pv 0)) (pg_name (i := 3) scLonger.nd rfl (Or.inr rfl)) (pss_one (ps_expr (pe_bm PySem.F.plainAttrs_list PySem.F.slot_list_extend PySem.F.type_list_extend mt_extend (pv 2) (pa_cons (pe_lc (own := [("_law_sign", 4)]) (g := gName 4) (tt := tYes) rfl scLonger.nd (pi_str (pv 1)) (blkOk_by (own := [("_law_sign", 4)]) (N := nLonger) (sc := defScope sLonger) (by decide +kernel)) (fun _ _ _ _ _ => pg_name (i := 4) scLonger.nd rfl (Or.inl rfl)) (fun _ _ _ _ _ => pts_nil) (fun _ _ _ _ _ => (pe_op op_add_str (pv 3) (pv 4)))) pa_nil)))))
      (pss_one (ps_ret (pv 2))))), ?_⟩
    refine ⟨(by show 0 ≤ sizeLine; omega), fun L nL => ?_⟩
    have kp : ∀ {H' : Hp}, Same H H' → SqL K H' a (ls.map V.str) := fun s => sqL_same hS s
    refine ⟨_, rfl, a, rfl, ⟨_, kp (sn nL)⟩, ?_⟩
    refine for_list (K := K) (a := a) (xs := ls.map V.str) (fun i σ H' => ∃ lv, σ = [some (.ref a), some (.str alpha), some (.ref L), lv, none] ∧ H' L = some (.lst ((longer (ls.take i)).map V.str)) ∧ Same H H')
      ⟨none, rfl, upd_same, sn nL⟩ (fun i σ H' _ ⟨lv, _, _, hs⟩ => kp hs) (fun i x σ H' hx ⟨lv, e, hL, hs⟩ => ?_) (fun σ H' ⟨lv, e, hL, hs⟩ => ?_)
    · subst e
      rw [List.getElem?_map] at hx
      cases ey : ls[i]? with
      | none => rw [ey] at hx; cases hx
      | some l =>
        rw [ey] at hx; cases hx
        have hll := hl l (List.mem_of_getElem? ey)
        refine ⟨_, rfl, .inl ⟨rfl, _, SqL.of hL⟩, _, rfl, alpha, rfl, fun D nD => ?_⟩
        refine lc_it walk_str (fun j H2 => H2 D = some (.lst ((List.range j).map fun i => V.str ⟨l.cps ++ #[97 + i]⟩)) ∧ Same H' H2) ⟨upd_same, sn nD⟩ (fun _ _ _ _ => trivial) (fun j v H2 H3 hj hP hY => ⟨rfl, ?_⟩) (fun H2 hP => ?_)
        · obtain ⟨rfl, c, hc, rfl⟩ := hY
          have hj' : j < 26 := by have e : alpha.cps.size = 26 := alpha_len; omega
          have ec : c = 97 + j := by
            have z := alpha_at hj'
            rw [Array.getElem?_toList] at z
            rw [z] at hc
            exact (Option.some.inj hc).symm
          subst ec
          refine ⟨_, rfl, _, rfl, l, ⟨#[97 + j]⟩, rfl, rfl, ?_, _, hP.1, ?_, ?_, fun b o eb => ?_⟩
          · show l.length + 1 ≤ sizeLine
            rw [sizeLine_eq]; omega
          · rw [List.length_map, List.length_range, sizeLine_eq]; omega
          · rw [upd_same, List.range_succ, List.map_append] <;> rfl
          · rw [upd_ne (ne_of_none eb nD)] <;> exact hP.2 b o eb
        · have e26 : alpha.cps.size = 26 := alpha_len
          have hD := hP.1
          rw [e26] at hD
          have eL := hP.2 _ _ hL
          have hLlen : (longer (ls.take i)).length ≤ 676 := by rw [longer_len, List.length_take]; omega
          refine ⟨L, D, _, _, rfl, rfl, eL, hD, ?_, some (.str l), rfl, ?_, fun b o eb => ?_⟩
          · rw [List.length_map, List.length_map, List.length_range, sizeLine_eq]; omega
          · rw [upd_same, List.take_add_one, ey]
            show _ = some (HO.lst ((longer (ls.take i ++ [l])).map V.str))
            rw [longer_snoc, List.map_append, List.map_map] <;> rfl
          · have hbL : b ≠ L := ne_of_none eb nL
            rw [upd_ne hbL]
            exact hP.2 _ _ (hs b o eb)
    · subst e
      rw [List.length_map, List.take_length] at hL
      exact ⟨_, rfl, k L H' hs nL hL⟩
theorem scFirst : FnScope nFirst ["_law_total", "_law_barred"] (defScope sFirst) := ⟨rfl, rfl, rfl, by decide +kernel, rfl, by decide +kernel, by decide +kernel⟩
theorem ok_first {f fG : Addr} {fd fdG : FuncData} (F : Fun K "_law_first_names" "_law_first_names" sFirst f fd) (T : Bare mg) (FG : Fun K "_law_longer" "_law_longer" sLonger fG fdG) (bG : Binds K fdG ["_law_lines", "_law_letters"] []) (mG : mg "_law_longer" = some (.ref fG)) : FnOk P w K mg base CX0 2 f fd ["_law_total", "_law_barred"] (spFirst K) := by
  have GG : FnOk P w K mg base CX0 1 fG fdG ["_law_lines", "_law_letters"] (spLonger K) := ok_longer FG
  refine F.ok scFirst (fun vs H Q E h => ?_) (fun cdv A outer s H vs Q E hr h => ?_)
  · obtain ⟨m, b, bar, rfl, _⟩ := h
    rfl
  · obtain ⟨M, b, bar, rfl, hM, hb, hbl, k⟩ := h
    refine ⟨_, (pss_cons (ps_par3 (i := 2) (j := 3) (l := 4) rfl scFirst.nd rfl rfl rfl (by decide) (by decide) (by decide) rfl rfl rfl (pa_cons pe_str (pa_cons (pe_lst (pa_cons pe_str pa_nil)) (pa_cons (pe_lst pa_nil) pa_nil))) (by rfl))
      (pss_cons (ps_while PassesOwn.never (pt_cmpR op_lt (pe_callB call_len_seq (by rfl) T.len (by decide +kernel) (pa_cons (pv 4) pa_nil)) (pv 0) (nomark _)) (pss_cons (ps_set (i := 3) scFirst.nd rfl (Or.inl rfl) (pe_call GG hr (by rfl) mG FG.kp bG .nil pass0 (pa_cons (pv 3) (pa_cons (pv 2) pa_nil))))
      (pss_one (ps_set (i := 4) scFirst.nd rfl (Or.inl rfl) (pe_op op_cat (pv 4) (pe_lc (own := [("_law_line", 5)]) (g := gName 5)  rfl scFirst.nd (pi_list (pv 3)) (blkOk_by (own := [("_law_line", 5)]) (N := nFirst) (sc := defScope sFirst) (by decide +kernel)) (fun _ _ _ _ _ => pg_name (i := 5) scFirst.nd rfl (Or.inl rfl)) (fun _ _ _ _ _ => (pts_one (pt_cmpR (r := rIn K true) (by exact op_notIn_seq) (pv 5) (pv 1) (by rfl)))) (fun _ _ _ _ _ => (pv 5))))))))
      (pss_one (ps_ret (pe_callTy call_tuple_of (by rfl) T.tup (by decide +kernel) (pa_cons (pe_slice sl_list (pv 4) po_none (po_some (pv 0))) pa_nil)))))), ?_⟩
    refine ⟨(by show 1 ≤ sizeLine; decide), fun A0 nA => ⟨(by show 0 ≤ sizeLine; omega), fun F0 nF => ⟨_, _, _, rfl, ?_⟩⟩⟩
    have sA : Same H (upd H A0 (.lst [.str ""])) := sn nA
    have sF := sA.trans (sn (o := .lst []) nF)
    have eA : (upd (upd H A0 (.lst [.str ""])) F0 (.lst [])) A0 = some (.lst [.str ""]) := sn nF _ _ upd_same
    refine ⟨fun m σ H' => ∃ (k : Nat) (ls : List PySem.Str) (A F : Addr), Stg m k ls ∧ σ = [some (.int (M : Int)), some (.ref b), some (.str alpha), some (.ref A), some (.ref F), none] ∧ H' A = some (.lst (ls.map V.str)) ∧ H' F = some (.lst ((first bar k).map V.str)) ∧ Same H H',
      ⟨2, 0, [⟨#[]⟩], A0, F0, .a, rfl, ?_, upd_same, sF⟩, ?_⟩
    · rw [eA]
      have es : (("" : PySem.Str)) = ⟨#[]⟩ := by decide +kernel
      rw [es] <;> rfl
    rintro m σ H' ⟨kk, ls, A, F, hst, rfl, hA, hF, hs⟩
    refine ⟨_, rfl, F, _, rfl, .inl (SqL.of hF), _, rfl, _, _, rfl, rfl, _, rfl, ?_⟩
    have hlen : ((first bar kk).map V.str).length = (first bar kk).length := List.length_map ..
    refine ite2 (fun h3 => ?_) (fun h3 => ?_)
    · have h4 : (first bar kk).length < M := by have h5 := of_decide_eq_true h3; rw [hlen] at h5; omega
      obtain ⟨m', rfl⟩ : ∃ m', m = m' + 1 := by
        rcases Nat.eq_zero_or_pos m with z | z
        · subst z
          cases hst
          have := first_long bar
          omega
        · exact ⟨m - 1, by omega⟩
      obtain ⟨k', hst', hfirst⟩ := hst.next
      obtain ⟨hs1, hs2⟩ := hst.short
      refine ⟨fun σ' H2 => ∃ m2, m2 < m' + 1 ∧ ∃ (k : Nat) (ls : List PySem.Str) (A F : Addr), Stg m2 k ls ∧ σ' = [some (.int (M : Int)), some (.ref b), some (.str alpha), some (.ref A), some (.ref F), none] ∧ H2 A = some (.lst (ls.map V.str)) ∧ H2 F = some (.lst ((first bar k).map V.str)) ∧ Same H H2, fun σ' H2 h => h, ?_⟩
      refine ⟨_, rfl, _, rfl, A, ls, rfl, SqL.of hA, hs1, hs2, fun p H3 s3 np hp => ?_⟩
      refine ⟨_, rfl, _, rfl, p, rfl, ⟨_, SqL.of hp⟩, fun D nD => ?_⟩
      have hll : (longer ls).length ≤ 676 := by rw [longer_len]; omega
      refine lc_list (K := K) (a := p) (xs := (longer ls).map V.str) (fun i H2 => H2 D = some (.lst ((((longer ls).take i).filter fun x => decide (x ∉ bar)).map V.str)) ∧ Same H3 H2) ⟨upd_same, sn nD⟩ (fun i H2 _ hP => SqL.of (hP.2 _ _ hp)) (fun i x H2 hx hP => ⟨rfl, ?_⟩) (fun H2 hP => ?_)
      · rw [List.getElem?_map] at hx
        cases ey : (longer ls)[i]? with
        | none => rw [ey] at hx; cases hx
        | some y =>
          rw [ey] at hx; cases hx
          refine ⟨_, rfl, _, rfl, b, _, rfl, .inr (sqT_same hb ((hs.trans s3).trans hP.2)), rfl, flat_strs bar, _, rfl, ?_⟩
          have et : (longer ls).take (i + 1) = (longer ls).take i ++ [y] := by rw [List.take_add_one, ey] <;> rfl
          rw [et, List.filter_append, List.map_append]
          show if (!inV (V.str y) (bar.map V.str)) = true then _ else _
          rw [inV_str]
          by_cases hy : y ∈ bar
          · rw [decide_eq_true hy]
            refine ⟨?_, hP.2⟩
            have e : List.filter (fun x => decide (x ∉ bar)) [y] = [] := by simp [hy]
            rw [e, List.map_nil, List.append_nil]
            exact hP.1
          · rw [decide_eq_false hy]
            refine ⟨_, rfl, _, hP.1, ?_, ?_, fun b o eb => ?_⟩
            · rw [List.length_map, sizeLine_eq]
              have := List.length_filter_le (fun x => decide (x ∉ bar)) ((longer ls).take i)
              rw [List.length_take] at this
              omega
            · have e : List.filter (fun x => decide (x ∉ bar)) [y] = [y] := by simp [hy]
              rw [upd_same, e] <;> rfl
            · rw [upd_ne (ne_of_none eb nD)] <;> exact hP.2 b o eb
      · have hD := hP.1
        rw [List.length_map, List.take_length] at hD
        have hF2 := hP.2 _ _ (s3 _ _ hF)
        have f1 := first_few bar kk
        have f2 := hst.le
        refine ⟨F, D, _, _, rfl, rfl, hF2, hD, ?_, fun q nq => ?_⟩
        · rw [List.length_map, List.length_map, sizeLine_eq]
          have := List.length_filter_le (fun x => decide (x ∉ bar)) (longer ls)
          omega
        · refine ⟨m', by omega, k', longer ls, p, q, hst', rfl, sn nq _ _ (hP.2 _ _ hp), ?_, ((hs.trans s3).trans hP.2).trans (sn nq)⟩
          rw [upd_same, hfirst bar, List.map_append]
    · have h4 : M ≤ (first bar kk).length := by
        have h5 : ¬ (((first bar kk).map V.str).length : Int) < (M : Int) := fun z => h3 (decide_eq_true z)
        rw [hlen] at h5; omega
      refine ⟨_, rfl, _, rfl, _, rfl, F, _, rfl, SqL.of hF, fun p np => ?_⟩
      refine ⟨p, _, rfl, .inl ⟨SqL.of upd_same, fun q nq => ?_⟩⟩
      refine k q _ ((hs.trans (sn np)).trans (sn nq)) ((hs.trans (sn np)).free nq) ?_
      rw [upd_same, cut_to, ← List.map_take, due_from hst.le h4]
end
end K1
/-! What a call of a lambda tells: its answer, or the error as a text. -/
namespace K1
open PySem PySem.Spec PyProof.Rows L2 K0 LamX

abbrev sTold : Stmt := top 30
/-- values that may stand for a number, and how they read -/
inductive Od (H : Hp) : V → PyData → Prop
  | non : Od H .non .none
  | bl (b : Bool) : Od H (.bl b) (.bool b)
  | int (i : Int) (h : i.natAbs.log2 < 200) : Od H (.int i) (.int i)
  | str (x : PySem.Str) (h : Few x) : Od H (.str x) (.str x)
  | tup {a : Addr} (e : H a = some (.tup [])) : Od H (.ref a) (.tuple [])
theorem Od.same {H H' : Hp} {v : V} {d : PyData} (h : Od H v d) (s : Same H H') : Od H' v d := by
  cases h with
  | non => exact .non
  | bl b => exact .bl b
  | int i h => exact .int i h
  | str x h => exact .str x h
  | tup e => exact .tup (s _ _ e)
theorem few_repr {x : PySem.Str} (h : Few x) : (PyData.shown (.str x)).length ≤ 70000 := by
  have f : (PyData.str x).leavesShort 91 = true := by simp only [PyData.leavesShort]; exact leaf_str h
  have z := PyData.shown_le 91 (by decide) (.str x) f
  have w : (PyData.str x).weight ≤ 600 := h.1
  have : (91 + 2) * (PyData.str x).weight ≤ (91 + 2) * 600 := Nat.mul_le_mul_left _ w
  omega
theorem Od.short {H : Hp} {v : V} {d : PyData} (h : Od H v d) : d.shown.length ≤ 70000 := by
  cases h with
  | non => decide +kernel
  | bl b => cases b <;> decide +kernel
  | int i h =>
    have z := int_text_length_le (by decide : 0 < 200) h
    show (PySem.Str.ofString (toString i)).length ≤ 70000
    rw [PySem.ofString_length]
    omega
  | str x h => exact few_repr h
  | tup e => decide +kernel
def rReprO : List V → Hp → VK → Prop := fun xs H Q => ∃ (v : V) (d : PyData), xs = [v] ∧ Od H v d ∧ Q (.str d.shown) H
theorem call_reprO {X : Cx} (hg : X.A.guards = some []) (hu : X.A.units + 64 < cLine) : CallR X (.builtin "repr") rReprO := by
  intro pins s σ H xs us Q I r h
  obtain ⟨v, d, rfl, ho, q⟩ := h
  obtain ⟨u, rfl, ru⟩ := vals1 r
  have hs := ho.short
  cases ho with
  | non => cases ru; exact PySem.P.repr_of_none ⟨.str _, H, I.tok _, ⟨_, rfl⟩, q⟩
  | bl b => cases ru; exact PySem.P.repr_of_bool ⟨.str _, H, I.tok _, ⟨_, rfl⟩, q⟩
  | int i h => obtain ⟨t, rfl⟩ := ru; exact PySem.P.repr_of_int (by omega) ⟨.str _, H, I.tok _, ⟨_, rfl⟩, q⟩
  | str x h => obtain ⟨t, rfl⟩ := ru; exact PySem.P.repr_of_str ⟨.str _, H, I.tok _, ⟨_, rfl⟩, q⟩ (by have z : (reprText x).length ≤ 70000 := hs; rw [sizeLine_eq]; omega)
  | tup e =>
    cases ru
    obtain ⟨its, rv, ⟨o, ho, hc, n, hd⟩, _⟩ := I.tuple (SqT.of e)
    cases rv
    have rd : Reads s.heap (.ref _) (.tuple []) _ := Reads.tuple ho hc hd .nil
    exact repr_of_reads' (h₀ := s.heap) rd (by decide +kernel) (fun z => absurd z (by decide +kernel)) hg (by show X.A.units + (1 + 1) < cLine; omega) (fun _ _ e => e) (fun h' u tk hk => ⟨.str _, H, I.kept (t' := tk) hk, ⟨u, rfl⟩, q⟩) (by rw [sizeLine_eq]; omega)
/-- another reading of a block -/
theorem pss_conv {X : Cx} {b : List Stmt} {t t' : TS} (h : PSs X b t) (c : ∀ (pins : List (Addr × Obj)) (s : Shared) (σ : L2.St) (H : Hp) (D : Ends), Inv X pins σ H s → t' D σ H → t D σ H) : PSs X b t' := ⟨fun pins s σ H D I q => h.run pins s σ H D I (c pins s σ H D I q)⟩
/-- told, of a lambda's reading -/
def TTwo (K : PySem.W.Frag) (CN CI : Addr) : (XK → Hp → VK → Prop) → Hp → VK → Prop := fun tl H Q =>
  tl (fun cls d H' => (cls = .ref CN ∧ Q (.str "name") H') ∨ (cls = .ref CI ∧ ∃ (dd : Addr) (v : V) (dt : PyData), d = some dd ∧ H' dd = some (.xd [("value", v)]) ∧ Od H' v dt ∧ Q (.str ("number " ++ dt.shown)) H')) H Q
/-- what the top says of the two errors together -/
structure Two (K : PySem.W.Frag) (CN CI : Addr) : Prop where
  nn : PySem.W.exmOne K (.ref CN) (.ref CN) = some true
  ni : PySem.W.exmOne K (.ref CI) (.ref CN) = some false
  ii : PySem.W.exmOne K (.ref CI) (.ref CI) = some true
  x : XfC K CI
  f : PySem.W.findIn K (.ref CI) "value" = some none
abbrev nTold : List PySem.Str := ["_law_call", "e"]
theorem scTold : FnScope nTold ["_law_call"] (defScope sTold) := ⟨rfl, rfl, rfl, by decide +kernel, rfl, by decide +kernel, by decide +kernel⟩
theorem num_len : ("number " : PySem.Str).length = 7 := by decide +kernel
theorem told_two {X : Cx} {k : Nat} {q : PySem.Str} {g CN CI : Addr} {cdg : Value} (hgd : X.A.guards = some []) (hr : Room (k + 2) X.A) (mN : X.mg "InvalidName" = some (.ref CN)) (mI : X.mg "InvalidNumber" = some (.ref CI)) (mR : X.mg "repr" = none) (Z : Two X.K CN CI) :
    GivesTo X nTold "_law_told" (defScope sTold) g cdg (defBody sTold) "_law_call" q (TTwo X.K CN CI) := by
  intro f c' s H Q tl act hc h
  have hr1 : Room (k + 1) (X.A.deeper (envOfC "_law_told" (defScope sTold) s.heap.objs.size g cdg)) := hr.deeper _
  have hu := hr1.units
  refine ⟨_, pss_one (ps_try_two (X := (cxOf C8.CX0 X.prog X.w X.K X.mg X.base nTold "_law_told" (defScope sTold) g cdg X.A X.stack s H C8.E0).nox) (c1 := .ref CN) (c2 := .ref CI) (i := 1)
      (tb := fun W D σ H => ∃ Ech : XK, (∀ cls d σ' H', Ech cls d H' → W cls d σ' H') ∧ σ = L2.start nTold [.ref f] ∧ H c' = some (CodeO c' q) ∧ tl Ech H D.rt)
      (ts2 := fun a cls d D σ H => (∃ σ' : L2.St, σ = σ'.set 1 (some (.ref a))) ∧ cls = .ref CI ∧ ∃ (dd : Addr) (v : V) (dt : PyData), d = some dd ∧ H dd = some (.xd [("value", v)]) ∧ Od H v dt ∧ D.rt (.str ("number " ++ dt.shown)) H)
      rfl rfl scTold.nd rfl rfl ⟨by rfl, by decide, .inl mN⟩ ⟨by rfl, by decide, .inl mI⟩ (fun W pn xe tk => ?_) (fun a oe cls d pn _ _ => pss_one (ps_ret pe_str))
      (fun a oe cls d pn hz hf => pss_conv (pss_one (ps_ret (pe_op op_add_str pe_str (pe_callB (call_reprO hgd hu) (by rfl) mR (by decide +kernel) (pa_cons (pe_xf Z.x Z.f hz hf (pv 1)) pa_nil))))) fun pins s σ H D I h => ?_)), ?_⟩
  · refine ⟨fun pins s' σ H' D I h' => ?_⟩
    obtain ⟨Ech, hW, h1, h2, h3⟩ := h'
    exact (pss_one (ps_ret (pos := ⟨116, 8, 116, 26⟩) (act W pn xe Ech ⟨116, 15, 116, 24⟩ ⟨116, 15, 116, 26⟩ tk hW))).run pins s' σ H' D I ⟨by rw [h1] <;> rfl, h2, h3⟩
  · obtain ⟨⟨σ', e1⟩, e2, dd, v, dt, e3, e4, od, k⟩ := h
    have len : σ'.length = 2 := by have z := I.len; rw [e1, List.length_set] at z; exact z
    refine ⟨_, by rw [e1, List.getElem?_set_self (by omega)], rfl, e2, dd, _, v, e3, e4, rfl, v, dt, rfl, od, _, _, rfl, rfl, ?_, k⟩
    have := od.short
    rw [num_len, sizeLine_eq]; omega
  · refine ⟨_, fun cls d σ' H' e => ?_, rfl, hc, h⟩
    rcases e with ⟨rfl, k⟩ | ⟨rfl, dd, v, dt, rfl, e, od, k⟩
    · exact .inl ⟨Z.nn, fun a _ => k⟩
    · exact .inr ⟨Z.ni, true, Z.ii, fun _ a _ => ⟨⟨_, rfl⟩, rfl, dd, v, dt, rfl, e, od, k⟩, fun z => nomatch z⟩
end K1
/-! The values that are near names, events and letters. -/
namespace K1
open PySem PySem.Spec PyProof.Rows L2 K0

abbrev sValues : Stmt := top 27
/-- what is asked of such a value -/
def Gv (K : PySem.W.Frag) (H : Hp) (v : V) : Prop := (∃ o, Nv K H v o) ∧ (∃ r, Ev K H v r) ∧ ∃ r, Lv K H v r
/-- what is asked of its items -/
def It (K : PySem.W.Frag) (H : Hp) (v : V) : Prop := ∃ o d, Nv K H v o ∧ Dp K H v d ∧ Shp d
def OkS (x : PySem.Str) : Prop := x.length ≤ 1000 ∧ PyData.strOk x = true
section
variable {K : PySem.W.Frag} {H : Hp}
theorem gv_flat {v : V} {t : String} (o : Option PySem.Str) (n : Nv K H v o) (ty : TyX K H v (.type t)) (h : kitB t "tuple" = some false) : Gv K H v := ⟨⟨o, n⟩, ⟨_, .no (.no ty h)⟩, ⟨_, .no (.no ty h)⟩⟩
theorem gv_str {x : PySem.Str} (h : x.length ≤ 1000) : Gv K H (.str x) := gv_flat _ (.str x h) (.base (.str x)) (by decide +kernel)
theorem gv_non : Gv K H .non := gv_flat none (.no (.base .non) (by decide +kernel)) (.base .non) (by decide +kernel)
theorem gv_bl (b : Bool) : Gv K H (.bl b) := gv_flat none (.no (.base (.bl b)) (by decide +kernel)) (.base (.bl b)) (by decide +kernel)
theorem gv_int (i : Int) : Gv K H (.int i) := gv_flat none (.no (.base (.int i)) (by decide +kernel)) (.base (.int i)) (by decide +kernel)
theorem gv_dic {a : Addr} {kvs : List (Key × V)} (e : H a = some (.dK kvs)) : Gv K H (.ref a) := gv_flat none (.no (.base (.dK e)) (by decide +kernel)) (.base (.dK e)) (by decide +kernel)
theorem gv_lst {a : Addr} {xs : List V} (e : H a = some (.lst xs)) : Gv K H (.ref a) := gv_flat none (.no (.base (.lst e)) (by decide +kernel)) (.base (.lst e)) (by decide +kernel)
theorem shp_shaped {d : PyData} (h : Shp d) : SeqAt.shaped d = true := by
  unfold SeqAt.shaped
  rw [Bool.and_eq_true]
  exact ⟨h.1, decide_eq_true (by have := h.2; omega)⟩
theorem gv_tup {a : Addr} {xs : List V} (e : H a = some (.tup xs)) (hl : xs.length ≤ 10) (h : ∀ v ∈ xs, It K H v) : Gv K H (.ref a) := by
  have ty : TyX K H (.ref a) (.type "tuple") := .base (.tup e)
  have tv : Tv K H (.ref a) (some xs) := .tup (SqT.of e) ty
  refine ⟨⟨none, .no ty (by decide +kernel)⟩, ?_, ?_⟩
  · match xs, h, tv, hl with
    | [x, y], h, tv, _ =>
      obtain ⟨_, d, _, hd, sd⟩ := h x (by simp)
      obtain ⟨o, _, ho, _, _⟩ := h y (by simp)
      exact ⟨_, .two tv hd (shp_shaped sd) ho⟩
    | [], _, tv, _ => exact ⟨_, .len tv (by simp) (by simp)⟩
    | [_], _, tv, _ => exact ⟨_, .len tv (by simp) (by simp)⟩
    | _ :: _ :: _ :: r, _, tv, hl => exact ⟨_, .len tv (by simp) (by omega)⟩
  · match xs, h, tv, hl with
    | [x, y, z], h, tv, _ =>
      obtain ⟨ox, dx, hx, px, sx⟩ := h x (by simp)
      obtain ⟨oy, dy, hy, py, sy⟩ := h y (by simp)
      obtain ⟨oz, dz, hz, pz, sz⟩ := h z (by simp)
      exact ⟨_, .three tv hx hy hz px py pz sx sy sz⟩
    | [], _, tv, _ => exact ⟨_, .len tv (by simp) (by simp)⟩
    | [_], _, tv, _ => exact ⟨_, .len tv (by simp) (by simp)⟩
    | [_, _], _, tv, _ => exact ⟨_, .len tv (by simp) (by simp)⟩
    | _ :: _ :: _ :: _ :: r, _, tv, hl => exact ⟨_, .len tv (by simp) (by omega)⟩
theorem it_str {x : PySem.Str} (h : x.length ≤ 1000) (h2 : PyData.strOk x = true) : It K H (.str x) := ⟨_, _, .str x h, .str x, h2, by simp [PyData.depth]⟩
theorem it_non : It K H .non := ⟨none, _, .no (.base .non) (by decide +kernel), .non, by decide +kernel, by decide +kernel⟩
theorem it_int (i : Int) : It K H (.int i) := ⟨none, _, .no (.base (.int i)) (by decide +kernel), .int i, rfl, by simp [PyData.depth]⟩
theorem it_nil {a : Addr} (e : H a = some (.lst [])) : It K H (.ref a) := ⟨none, _, .no (.base (.lst e)) (by decide +kernel), .lst (SqL.of e) .nil, by decide +kernel, by decide +kernel⟩
theorem it_tup1 {a : Addr} {x : PySem.Str} (e : H a = some (.tup [.str x])) (h : x.length ≤ 1000) (h2 : PyData.strOk x = true) : It K H (.ref a) :=
  ⟨none, _, .no (.base (.tup e)) (by decide +kernel), .tup (SqT.of e) (.cons (.str x) .nil), by show (PyData.strOk x && true) = true; rw [h2] <;> rfl, by simp [PyData.depth, PyData.depthAll]⟩
theorem its_nil : ∀ v ∈ ([] : List V), It K H v := fun _ h => nomatch h
theorem its_cons {v : V} {r : List V} (h : It K H v) (t : ∀ v ∈ r, It K H v) : ∀ u ∈ v :: r, It K H u := fun u hu => by
  rcases List.mem_cons.mp hu with rfl | hu
  · exact h
  · exact t u hu
theorem gvs_nil : ∀ v ∈ ([] : List V), Gv K H v := fun _ h => nomatch h
theorem gvs_cons {v : V} {r : List V} (h : Gv K H v) (t : ∀ v ∈ r, Gv K H v) : ∀ u ∈ v :: r, Gv K H u := fun u hu => by
  rcases List.mem_cons.mp hu with rfl | hu
  · exact h
  · exact t u hu
theorem wd_ok {x : PySem.Str} (h : Wd x) : OkS x := by
  refine ⟨by have := h.1; omega, ?_⟩
  unfold PyData.strOk
  rw [← Array.all_toList, List.all_eq_true]
  intro c hc
  have z : (sgn.all fun c => decide (c < 1114112)) = true := by decide
  exact List.all_eq_true.mp z c (h.2 c hc)
theorem nine_ok {o : PySem.Str} (h : o.length ≤ ("a" : PySem.Str).length * (9 : Int).toNat) (hc : ∀ c ∈ o.cps.toList, c ∈ ("a" : PySem.Str).cps.toList) : OkS o := by
  have e : ("a" : PySem.Str).length = 1 := by decide +kernel
  refine ⟨by rw [e] at h; have z : (9 : Int).toNat = 9 := rfl; omega, ?_⟩
  unfold PyData.strOk
  rw [← Array.all_toList, List.all_eq_true]
  intro c hm
  have z : (("a" : PySem.Str).cps.toList.all fun c => decide (c < 1114112)) = true := by decide +kernel
  exact List.all_eq_true.mp z c (hc c hm)
end
def spValues (K : PySem.W.Frag) : Sp := fun vs H Q _ => ∃ (p : Addr) (x y z : Int), vs = [.ref p] ∧ Dice H p x y z ∧
  ∀ (q : Addr) (xs : List V) (x' z' : Int) (H' : Hp), H' q = some (.lst xs) → (∀ v ∈ xs, Gv K H' v) → xs.length ≤ 40 → Dice H' p x' y z' → (∀ b o, b ≠ p → H b = some o → H' b = some o) → Q (.ref q) H'
section
variable {P : Program} {w : World} {K : PySem.W.Frag} {mg : PySem.Str → Option Value} {base : Heap}
theorem scValues : FnScope ["_law_dice_here", "_law_one", "_law_other", "_law_more", "_law_some"] ["_law_dice_here"] (defScope sValues) := ⟨rfl, rfl, rfl, by decide +kernel, rfl, by decide +kernel, by decide +kernel⟩
theorem ok_values {f fU fP fW : Addr} {fd fdU fdP fdW : FuncData} (F : Fun K "_law_values" "_law_values" sValues f fd) (T : Bare mg) (FU : Fun K "_law_pull" "_law_pull" sPull fU fdU) (bU : Binds K fdU ["_law_dice_here", "_law_total"] []) (mU : mg "_law_pull" = some (.ref fU))
    (FP : Fun K "_law_pick" "_law_pick" sPick fP fdP) (bP : Binds K fdP ["_law_dice_here", "_law_items"] []) (mP : mg "_law_pick" = some (.ref fP)) (FW : Fun K "_law_word" "_law_word" sWord fW fdW) (bW : Binds K fdW ["_law_dice_here"] []) (mW : mg "_law_word" = some (.ref fW)) : FnOk P w K mg base CX0 4 f fd ["_law_dice_here"] (spValues K) := by
  have GW : FnOk P w K mg base CX0 3 fW fdW ["_law_dice_here"] spWord := ok_word FW T FU bU mU FP bP mP
  refine F.ok scValues (fun vs H Q E h => ?_) (fun cdv A outer s H vs Q E hr h => ?_)
  · obtain ⟨p, x, y, z, rfl, _⟩ := h
    rfl
  · obtain ⟨p, x, y, z, rfl, D0, k⟩ := h
    refine ⟨_, (pss_cons (ps_par3 (i := 1) (j := 2) (l := 3) rfl scValues.nd rfl rfl rfl (by decide) (by decide) (by decide) rfl rfl rfl (pa_cons (pe_call GW hr (by rfl) mW FW.kp bW .nil pass0 (pa_cons (pv 0) pa_nil)) (pa_cons (pe_call GW hr (by rfl) mW FW.kp bW .nil pass0 (pa_cons (pv 0) pa_nil)) (pa_cons (pe_call GW hr (by rfl) mW FW.kp bW .nil pass0 (pa_cons (pv 0) pa_nil)) pa_nil))) (by rfl))
      (pss_cons (ps_set (i := 4) scValues.nd rfl (Or.inl rfl) (pe_lst (pa_cons (pv 1) (pa_cons (pe_tup (pa_cons (pv 1) pa_nil)) (pa_cons (pe_tup (pa_cons pe_str (pa_cons (pv 1) pa_nil))) (pa_cons (pe_tup (pa_cons pe_str (pa_cons (pv 2) pa_nil))) (pa_cons (pe_lst (pa_cons pe_str (pa_cons (pv 1) pa_nil))) (pa_cons (pe_tup (pa_cons pe_str (pa_cons (pv 1) (pa_cons (pv 2) pa_nil)))) (pa_cons (pe_tup (pa_cons (pv 1) (pa_cons pe_str pa_nil))) (pa_cons pe_non (pa_cons pe_bl pa_nil)))))))))))
      (pss_cons (ps_set (i := 4) scValues.nd rfl (Or.inl rfl) (pe_op op_cat (pv 4) (pe_lst (pa_cons (pe_tup (pa_cons (pv 1) (pa_cons (pv 2) (pa_cons (pv 3) pa_nil)))) (pa_cons (pe_tup (pa_cons (pv 1) (pa_cons (pv 2) (pa_cons (pv 2) pa_nil)))) (pa_cons (pe_lst (pa_cons (pv 1) (pa_cons (pv 2) (pa_cons (pv 3) pa_nil)))) (pa_cons (pe_tup (pa_cons (pv 1) (pa_cons (pv 2) pa_nil))) (pa_cons (pe_tup (pa_cons pe_str (pa_cons (pv 1) pa_nil))) (pa_cons pe_int (pa_cons (pe_tup pa_nil) (pa_cons pe_dnewK pa_nil)))))))))))
      (pss_cons (ps_set (i := 4) scValues.nd rfl (Or.inl rfl) (pe_op op_cat (pv 4) (pe_lst (pa_cons (pe_tup (pa_cons pe_str (pa_cons pe_non pa_nil))) (pa_cons (pe_tup (pa_cons pe_non (pa_cons (pv 1) pa_nil))) (pa_cons (pe_tup (pa_cons pe_str (pa_cons (pe_tup (pa_cons pe_str pa_nil)) pa_nil))) (pa_cons (pe_tup (pa_cons (pe_tup (pa_cons pe_str pa_nil)) (pa_cons (pv 1) pa_nil))) (pa_cons (pe_tup (pa_cons pe_str (pa_cons (pv 1) pa_nil))) pa_nil))))))))
      (pss_cons (ps_set (i := 4) scValues.nd rfl (Or.inl rfl) (pe_op op_cat (pv 4) (pe_lst (pa_cons (pe_tup (pa_cons (pe_lst pa_nil) (pa_cons (pv 1) pa_nil))) (pa_cons (pe_tup (pa_cons (pv 1) (pa_cons pe_int (pa_cons pe_str pa_nil)))) pa_nil)))))
      (pss_cons (ps_set (i := 4) scValues.nd rfl (Or.inl rfl) (pe_op op_cat (pv 4) (pe_lst (pa_cons (pe_tup (pa_cons pe_str (pa_cons (pv 1) (pa_cons (pv 2) pa_nil)))) (pa_cons (pe_tup (pa_cons pe_str (pa_cons pe_str pa_nil))) (pa_cons (pe_tup (pa_cons pe_str (pa_cons (pe_op op_times pe_str pe_int) pa_nil))) pa_nil))))))
      (pss_one (ps_ret (pe_op op_cat (pv 4) (pe_lst (pa_cons (pe_tup (pa_cons pe_str (pa_cons pe_str (pa_cons pe_str pa_nil)))) (pa_cons (pe_tup (pa_cons pe_str (pa_cons pe_str (pa_cons pe_str pa_nil)))) pa_nil)))))))))))), ?_⟩
    refine ⟨_, rfl, p, x, y, z, rfl, D0, fun w1 x1 y1 H1 hd1 D1 hk1 => ?_⟩
    refine ⟨_, rfl, p, x1, y, y1, rfl, D1, fun w2 x2 y2 H2 hd2 D2 hk2 => ?_⟩
    refine ⟨_, rfl, p, x2, y, y2, rfl, D2, fun w3 x3 y3 H3 hd3 D3 hk3 => ?_⟩
    have hw1 := wd_ok hd1
    have hw2 := wd_ok hd2
    have hw3 := wd_ok hd3
    have kk : ∀ b o, b ≠ p → H b = some o → H3 b = some o := fun b o hb e => hk3 b o hb (hk2 b o hb (hk1 b o hb e))
    refine ⟨_, _, _, rfl, ?_⟩
    refine ⟨_, rfl, _, rfl, (by show 1 ≤ sizeLine; rw [sizeLine_eq]; omega), fun a0 na0 => ?_⟩
    refine ⟨_, rfl, (by show 2 ≤ sizeLine; rw [sizeLine_eq]; omega), fun a1 na1 => ?_⟩
    refine ⟨_, rfl, (by show 2 ≤ sizeLine; rw [sizeLine_eq]; omega), fun a2 na2 => ?_⟩
    refine ⟨_, rfl, (by show 2 ≤ sizeLine; rw [sizeLine_eq]; omega), fun a3 na3 => ?_⟩
    refine ⟨_, rfl, _, rfl, (by show 3 ≤ sizeLine; rw [sizeLine_eq]; omega), fun a4 na4 => ?_⟩
    refine ⟨_, rfl, (by show 2 ≤ sizeLine; rw [sizeLine_eq]; omega), fun a5 na5 => ?_⟩
    refine ⟨(by show 9 ≤ sizeLine; rw [sizeLine_eq]; omega), fun a6 na6 => ?_⟩
    have c0 := sn (o := .tup [.str w1]) na0
    have c1 := sn (o := .tup [.str "send", .str w1]) na1
    have c2 := sn (o := .tup [.str "read", .str w2]) na2
    have c3 := sn (o := .lst [.str "send", .str w1]) na3
    have c4 := sn (o := .tup [.str "send", .str w1, .str w2]) na4
    have c5 := sn (o := .tup [.str w1, .str "send"]) na5
    have c6 := sn (o := .lst [.str w1, .ref a0, .ref a1, .ref a2, .ref a3, .ref a4, .ref a5, .non, .bl true]) na6
    refine ⟨_, rfl, _, rfl, _, rfl, _, rfl, (by show 3 ≤ sizeLine; rw [sizeLine_eq]; omega), fun a7 na7 => ?_⟩
    refine ⟨_, rfl, _, rfl, _, rfl, (by show 3 ≤ sizeLine; rw [sizeLine_eq]; omega), fun a8 na8 => ?_⟩
    refine ⟨_, rfl, _, rfl, _, rfl, (by show 3 ≤ sizeLine; rw [sizeLine_eq]; omega), fun a9 na9 => ?_⟩
    refine ⟨_, rfl, _, rfl, (by show 2 ≤ sizeLine; rw [sizeLine_eq]; omega), fun a10 na10 => ?_⟩
    refine ⟨_, rfl, (by show 2 ≤ sizeLine; rw [sizeLine_eq]; omega), fun a11 na11 => ?_⟩
    refine ⟨(by show 0 ≤ sizeLine; rw [sizeLine_eq]; omega), fun a12 na12 => ?_⟩
    refine fun a13 na13 => ?_
    refine ⟨(by show 8 ≤ sizeLine; rw [sizeLine_eq]; omega), fun a14 na14 => ?_⟩
    have c7 := sn (o := .tup [.str w1, .str w2, .str w3]) na7
    have c8 := sn (o := .tup [.str w1, .str w2, .str w2]) na8
    have c9 := sn (o := .lst [.str w1, .str w2, .str w3]) na9
    have c10 := sn (o := .tup [.str w1, .str w2]) na10
    have c11 := sn (o := .tup [.str "Send", .str w1]) na11
    have c12 := sn (o := .tup []) na12
    have c13 := sn (o := .dK []) na13
    have c14 := sn (o := .lst [.ref a7, .ref a8, .ref a9, .ref a10, .ref a11, .int 7, .ref a12, .ref a13]) na14
    refine ⟨a6, a14, _, _, rfl, rfl, (((((((c7.trans c8).trans c9).trans c10).trans c11).trans c12).trans c13).trans c14) _ _ upd_same, upd_same, (by show 17 ≤ sizeLine; rw [sizeLine_eq]; omega), fun a15 na15 => ?_⟩
    have c15 := sn (o := .lst [.str w1, .ref a0, .ref a1, .ref a2, .ref a3, .ref a4, .ref a5, .non, .bl true, .ref a7, .ref a8, .ref a9, .ref a10, .ref a11, .int 7, .ref a12, .ref a13]) na15
    refine ⟨_, rfl, (by show 2 ≤ sizeLine; rw [sizeLine_eq]; omega), fun a16 na16 => ?_⟩
    refine ⟨_, rfl, (by show 2 ≤ sizeLine; rw [sizeLine_eq]; omega), fun a17 na17 => ?_⟩
    refine ⟨(by show 1 ≤ sizeLine; rw [sizeLine_eq]; omega), fun a18 na18 => ?_⟩
    refine ⟨(by show 2 ≤ sizeLine; rw [sizeLine_eq]; omega), fun a19 na19 => ?_⟩
    refine ⟨(by show 1 ≤ sizeLine; rw [sizeLine_eq]; omega), fun a20 na20 => ?_⟩
    refine ⟨_, rfl, (by show 2 ≤ sizeLine; rw [sizeLine_eq]; omega), fun a21 na21 => ?_⟩
    refine ⟨_, rfl, (by show 2 ≤ sizeLine; rw [sizeLine_eq]; omega), fun a22 na22 => ?_⟩
    refine ⟨(by show 5 ≤ sizeLine; rw [sizeLine_eq]; omega), fun a23 na23 => ?_⟩
    have c16 := sn (o := .tup [.str "read", .non]) na16
    have c17 := sn (o := .tup [.non, .str w1]) na17
    have c18 := sn (o := .tup [.str "a"]) na18
    have c19 := sn (o := .tup [.str "send", .ref a18]) na19
    have c20 := sn (o := .tup [.str "send"]) na20
    have c21 := sn (o := .tup [.ref a20, .str w1]) na21
    have c22 := sn (o := .tup [.str "sent", .str w1]) na22
    have c23 := sn (o := .lst [.ref a16, .ref a17, .ref a19, .ref a21, .ref a22]) na23
    refine ⟨a15, a23, _, _, rfl, rfl, (((((((c16.trans c17).trans c18).trans c19).trans c20).trans c21).trans c22).trans c23) _ _ upd_same, upd_same, (by show 22 ≤ sizeLine; rw [sizeLine_eq]; omega), fun a24 na24 => ?_⟩
    have c24 := sn (o := .lst [.str w1, .ref a0, .ref a1, .ref a2, .ref a3, .ref a4, .ref a5, .non, .bl true, .ref a7, .ref a8, .ref a9, .ref a10, .ref a11, .int 7, .ref a12, .ref a13, .ref a16, .ref a17, .ref a19, .ref a21, .ref a22]) na24
    refine ⟨_, rfl, (by show 0 ≤ sizeLine; rw [sizeLine_eq]; omega), fun a25 na25 => ?_⟩
    refine ⟨_, rfl, (by show 2 ≤ sizeLine; rw [sizeLine_eq]; omega), fun a26 na26 => ?_⟩
    refine ⟨_, rfl, (by show 3 ≤ sizeLine; rw [sizeLine_eq]; omega), fun a27 na27 => ?_⟩
    refine ⟨(by show 2 ≤ sizeLine; rw [sizeLine_eq]; omega), fun a28 na28 => ?_⟩
    have c25 := sn (o := .lst []) na25
    have c26 := sn (o := .tup [.ref a25, .str w1]) na26
    have c27 := sn (o := .tup [.str w1, .int 3, .str "b"]) na27
    have c28 := sn (o := .lst [.ref a26, .ref a27]) na28
    refine ⟨a24, a28, _, _, rfl, rfl, (((c25.trans c26).trans c27).trans c28) _ _ upd_same, upd_same, (by show 24 ≤ sizeLine; rw [sizeLine_eq]; omega), fun a29 na29 => ?_⟩
    have c29 := sn (o := .lst [.str w1, .ref a0, .ref a1, .ref a2, .ref a3, .ref a4, .ref a5, .non, .bl true, .ref a7, .ref a8, .ref a9, .ref a10, .ref a11, .int 7, .ref a12, .ref a13, .ref a16, .ref a17, .ref a19, .ref a21, .ref a22, .ref a26, .ref a27]) na29
    refine ⟨_, rfl, _, rfl, _, rfl, (by show 3 ≤ sizeLine; rw [sizeLine_eq]; omega), fun a30 na30 => ?_⟩
    refine ⟨(by show 2 ≤ sizeLine; rw [sizeLine_eq]; omega), fun a31 na31 => ?_⟩
    refine ⟨_, _, rfl, rfl, (by decide), (by decide), (by decide), fun w9 h9 k9 => ?_⟩
    refine ⟨(by show 2 ≤ sizeLine; rw [sizeLine_eq]; omega), fun a32 na32 => ?_⟩
    refine ⟨(by show 3 ≤ sizeLine; rw [sizeLine_eq]; omega), fun a33 na33 => ?_⟩
    have c30 := sn (o := .tup [.str "other", .str w1, .str w2]) na30
    have c31 := sn (o := .tup [.str "send", .str "send"]) na31
    have c32 := sn (o := .tup [.str "read", .str w9]) na32
    have c33 := sn (o := .lst [.ref a30, .ref a31, .ref a32]) na33
    refine ⟨a29, a33, _, _, rfl, rfl, (((c30.trans c31).trans c32).trans c33) _ _ upd_same, upd_same, (by show 27 ≤ sizeLine; rw [sizeLine_eq]; omega), fun a34 na34 => ?_⟩
    have c34 := sn (o := .lst [.str w1, .ref a0, .ref a1, .ref a2, .ref a3, .ref a4, .ref a5, .non, .bl true, .ref a7, .ref a8, .ref a9, .ref a10, .ref a11, .int 7, .ref a12, .ref a13, .ref a16, .ref a17, .ref a19, .ref a21, .ref a22, .ref a26, .ref a27, .ref a30, .ref a31, .ref a32]) na34
    refine ⟨_, rfl, (by show 3 ≤ sizeLine; rw [sizeLine_eq]; omega), fun a35 na35 => ?_⟩
    refine ⟨(by show 3 ≤ sizeLine; rw [sizeLine_eq]; omega), fun a36 na36 => ?_⟩
    refine ⟨(by show 2 ≤ sizeLine; rw [sizeLine_eq]; omega), fun a37 na37 => ?_⟩
    have c35 := sn (o := .tup [.str "order", .str "p", .str "q"]) na35
    have c36 := sn (o := .tup [.str "", .str "p", .str "q"]) na36
    have c37 := sn (o := .lst [.ref a35, .ref a36]) na37
    refine ⟨a34, a37, _, _, rfl, rfl, ((c35.trans c36).trans c37) _ _ upd_same, upd_same, (by show 29 ≤ sizeLine; rw [sizeLine_eq]; omega), fun a38 na38 => ?_⟩
    have c38 := sn (o := .lst [.str w1, .ref a0, .ref a1, .ref a2, .ref a3, .ref a4, .ref a5, .non, .bl true, .ref a7, .ref a8, .ref a9, .ref a10, .ref a11, .int 7, .ref a12, .ref a13, .ref a16, .ref a17, .ref a19, .ref a21, .ref a22, .ref a26, .ref a27, .ref a30, .ref a31, .ref a32, .ref a35, .ref a36]) na38
    have z38 : Same _ _ := c38
    have z37 := c37.trans z38
    have z36 := c36.trans z37
    have z35 := c35.trans z36
    have z34 := c34.trans z35
    have z33 := c33.trans z34
    have z32 := c32.trans z33
    have z31 := c31.trans z32
    have z30 := c30.trans z31
    have z29 := c29.trans z30
    have z28 := c28.trans z29
    have z27 := c27.trans z28
    have z26 := c26.trans z27
    have z25 := c25.trans z26
    have z24 := c24.trans z25
    have z23 := c23.trans z24
    have z22 := c22.trans z23
    have z21 := c21.trans z22
    have z20 := c20.trans z21
    have z19 := c19.trans z20
    have z18 := c18.trans z19
    have z17 := c17.trans z18
    have z16 := c16.trans z17
    have z15 := c15.trans z16
    have z14 := c14.trans z15
    have z13 := c13.trans z14
    have z12 := c12.trans z13
    have z11 := c11.trans z12
    have z10 := c10.trans z11
    have z9 := c9.trans z10
    have z8 := c8.trans z9
    have z7 := c7.trans z8
    have z6 := c6.trans z7
    have z5 := c5.trans z6
    have z4 := c4.trans z5
    have z3 := c3.trans z4
    have z2 := c2.trans z3
    have z1 := c1.trans z2
    have z0 := c0.trans z1
    have e0 := z1 _ _ (upd_same : (upd _ a0 (.tup [.str w1])) a0 = _)
    have e1 := z2 _ _ (upd_same : (upd _ a1 (.tup [.str "send", .str w1])) a1 = _)
    have e2 := z3 _ _ (upd_same : (upd _ a2 (.tup [.str "read", .str w2])) a2 = _)
    have e3 := z4 _ _ (upd_same : (upd _ a3 (.lst [.str "send", .str w1])) a3 = _)
    have e4 := z5 _ _ (upd_same : (upd _ a4 (.tup [.str "send", .str w1, .str w2])) a4 = _)
    have e5 := z6 _ _ (upd_same : (upd _ a5 (.tup [.str w1, .str "send"])) a5 = _)
    have e6 := z7 _ _ (upd_same : (upd _ a6 (.lst [.str w1, .ref a0, .ref a1, .ref a2, .ref a3, .ref a4, .ref a5, .non, .bl true])) a6 = _)
    have e7 := z8 _ _ (upd_same : (upd _ a7 (.tup [.str w1, .str w2, .str w3])) a7 = _)
    have e8 := z9 _ _ (upd_same : (upd _ a8 (.tup [.str w1, .str w2, .str w2])) a8 = _)
    have e9 := z10 _ _ (upd_same : (upd _ a9 (.lst [.str w1, .str w2, .str w3])) a9 = _)
    have e10 := z11 _ _ (upd_same : (upd _ a10 (.tup [.str w1, .str w2])) a10 = _)
    have e11 := z12 _ _ (upd_same : (upd _ a11 (.tup [.str "Send", .str w1])) a11 = _)
    have e12 := z13 _ _ (upd_same : (upd _ a12 (.tup [])) a12 = _)
    have e13 := z14 _ _ (upd_same : (upd _ a13 (.dK [])) a13 = _)
    have e14 := z15 _ _ (upd_same : (upd _ a14 (.lst [.ref a7, .ref a8, .ref a9, .ref a10, .ref a11, .int 7, .ref a12, .ref a13])) a14 = _)
    have e15 := z16 _ _ (upd_same : (upd _ a15 (.lst [.str w1, .ref a0, .ref a1, .ref a2, .ref a3, .ref a4, .ref a5, .non, .bl true, .ref a7, .ref a8, .ref a9, .ref a10, .ref a11, .int 7, .ref a12, .ref a13])) a15 = _)
    have e16 := z17 _ _ (upd_same : (upd _ a16 (.tup [.str "read", .non])) a16 = _)
    have e17 := z18 _ _ (upd_same : (upd _ a17 (.tup [.non, .str w1])) a17 = _)
    have e18 := z19 _ _ (upd_same : (upd _ a18 (.tup [.str "a"])) a18 = _)
    have e19 := z20 _ _ (upd_same : (upd _ a19 (.tup [.str "send", .ref a18])) a19 = _)
    have e20 := z21 _ _ (upd_same : (upd _ a20 (.tup [.str "send"])) a20 = _)
    have e21 := z22 _ _ (upd_same : (upd _ a21 (.tup [.ref a20, .str w1])) a21 = _)
    have e22 := z23 _ _ (upd_same : (upd _ a22 (.tup [.str "sent", .str w1])) a22 = _)
    have e23 := z24 _ _ (upd_same : (upd _ a23 (.lst [.ref a16, .ref a17, .ref a19, .ref a21, .ref a22])) a23 = _)
    have e24 := z25 _ _ (upd_same : (upd _ a24 (.lst [.str w1, .ref a0, .ref a1, .ref a2, .ref a3, .ref a4, .ref a5, .non, .bl true, .ref a7, .ref a8, .ref a9, .ref a10, .ref a11, .int 7, .ref a12, .ref a13, .ref a16, .ref a17, .ref a19, .ref a21, .ref a22])) a24 = _)
    have e25 := z26 _ _ (upd_same : (upd _ a25 (.lst [])) a25 = _)
    have e26 := z27 _ _ (upd_same : (upd _ a26 (.tup [.ref a25, .str w1])) a26 = _)
    have e27 := z28 _ _ (upd_same : (upd _ a27 (.tup [.str w1, .int 3, .str "b"])) a27 = _)
    have e28 := z29 _ _ (upd_same : (upd _ a28 (.lst [.ref a26, .ref a27])) a28 = _)
    have e29 := z30 _ _ (upd_same : (upd _ a29 (.lst [.str w1, .ref a0, .ref a1, .ref a2, .ref a3, .ref a4, .ref a5, .non, .bl true, .ref a7, .ref a8, .ref a9, .ref a10, .ref a11, .int 7, .ref a12, .ref a13, .ref a16, .ref a17, .ref a19, .ref a21, .ref a22, .ref a26, .ref a27])) a29 = _)
    have e30 := z31 _ _ (upd_same : (upd _ a30 (.tup [.str "other", .str w1, .str w2])) a30 = _)
    have e31 := z32 _ _ (upd_same : (upd _ a31 (.tup [.str "send", .str "send"])) a31 = _)
    have e32 := z33 _ _ (upd_same : (upd _ a32 (.tup [.str "read", .str w9])) a32 = _)
    have e33 := z34 _ _ (upd_same : (upd _ a33 (.lst [.ref a30, .ref a31, .ref a32])) a33 = _)
    have e34 := z35 _ _ (upd_same : (upd _ a34 (.lst [.str w1, .ref a0, .ref a1, .ref a2, .ref a3, .ref a4, .ref a5, .non, .bl true, .ref a7, .ref a8, .ref a9, .ref a10, .ref a11, .int 7, .ref a12, .ref a13, .ref a16, .ref a17, .ref a19, .ref a21, .ref a22, .ref a26, .ref a27, .ref a30, .ref a31, .ref a32])) a34 = _)
    have e35 := z36 _ _ (upd_same : (upd _ a35 (.tup [.str "order", .str "p", .str "q"])) a35 = _)
    have e36 := z37 _ _ (upd_same : (upd _ a36 (.tup [.str "", .str "p", .str "q"])) a36 = _)
    have e37 := z38 _ _ (upd_same : (upd _ a37 (.lst [.ref a35, .ref a36])) a37 = _)
    have hn9 := nine_ok h9 k9
    refine k a38 _ x3 y3 _ upd_same ?_ (by show 29 ≤ 40; decide) (D3.same z0) fun b o hb e => z0 _ _ (kk b o hb e)
    exact (gvs_cons (gv_str hw1.1)
      (gvs_cons (gv_tup e0 (by show 1 ≤ 10; decide) (its_cons (it_str hw1.1 hw1.2) its_nil))
      (gvs_cons (gv_tup e1 (by show 2 ≤ 10; decide) (its_cons (it_str (x := "send") (by decide +kernel) (by decide +kernel)) (its_cons (it_str hw1.1 hw1.2) its_nil)))
      (gvs_cons (gv_tup e2 (by show 2 ≤ 10; decide) (its_cons (it_str (x := "read") (by decide +kernel) (by decide +kernel)) (its_cons (it_str hw2.1 hw2.2) its_nil)))
      (gvs_cons (gv_lst e3)
      (gvs_cons (gv_tup e4 (by show 3 ≤ 10; decide) (its_cons (it_str (x := "send") (by decide +kernel) (by decide +kernel)) (its_cons (it_str hw1.1 hw1.2) (its_cons (it_str hw2.1 hw2.2) its_nil))))
      (gvs_cons (gv_tup e5 (by show 2 ≤ 10; decide) (its_cons (it_str hw1.1 hw1.2) (its_cons (it_str (x := "send") (by decide +kernel) (by decide +kernel)) its_nil)))
      (gvs_cons (gv_non)
      (gvs_cons (gv_bl _)
      (gvs_cons (gv_tup e7 (by show 3 ≤ 10; decide) (its_cons (it_str hw1.1 hw1.2) (its_cons (it_str hw2.1 hw2.2) (its_cons (it_str hw3.1 hw3.2) its_nil))))
      (gvs_cons (gv_tup e8 (by show 3 ≤ 10; decide) (its_cons (it_str hw1.1 hw1.2) (its_cons (it_str hw2.1 hw2.2) (its_cons (it_str hw2.1 hw2.2) its_nil))))
      (gvs_cons (gv_lst e9)
      (gvs_cons (gv_tup e10 (by show 2 ≤ 10; decide) (its_cons (it_str hw1.1 hw1.2) (its_cons (it_str hw2.1 hw2.2) its_nil)))
      (gvs_cons (gv_tup e11 (by show 2 ≤ 10; decide) (its_cons (it_str (x := "Send") (by decide +kernel) (by decide +kernel)) (its_cons (it_str hw1.1 hw1.2) its_nil)))
      (gvs_cons (gv_int _)
      (gvs_cons (gv_tup e12 (by show 0 ≤ 10; decide) its_nil)
      (gvs_cons (gv_dic e13)
      (gvs_cons (gv_tup e16 (by show 2 ≤ 10; decide) (its_cons (it_str (x := "read") (by decide +kernel) (by decide +kernel)) (its_cons it_non its_nil)))
      (gvs_cons (gv_tup e17 (by show 2 ≤ 10; decide) (its_cons it_non (its_cons (it_str hw1.1 hw1.2) its_nil)))
      (gvs_cons (gv_tup e19 (by show 2 ≤ 10; decide) (its_cons (it_str (x := "send") (by decide +kernel) (by decide +kernel)) (its_cons (it_tup1 (x := "a") e18 (by decide +kernel) (by decide +kernel)) its_nil)))
      (gvs_cons (gv_tup e21 (by show 2 ≤ 10; decide) (its_cons (it_tup1 (x := "send") e20 (by decide +kernel) (by decide +kernel)) (its_cons (it_str hw1.1 hw1.2) its_nil)))
      (gvs_cons (gv_tup e22 (by show 2 ≤ 10; decide) (its_cons (it_str (x := "sent") (by decide +kernel) (by decide +kernel)) (its_cons (it_str hw1.1 hw1.2) its_nil)))
      (gvs_cons (gv_tup e26 (by show 2 ≤ 10; decide) (its_cons (it_nil e25) (its_cons (it_str hw1.1 hw1.2) its_nil)))
      (gvs_cons (gv_tup e27 (by show 3 ≤ 10; decide) (its_cons (it_str hw1.1 hw1.2) (its_cons (it_int _) (its_cons (it_str (x := "b") (by decide +kernel) (by decide +kernel)) its_nil))))
      (gvs_cons (gv_tup e30 (by show 3 ≤ 10; decide) (its_cons (it_str (x := "other") (by decide +kernel) (by decide +kernel)) (its_cons (it_str hw1.1 hw1.2) (its_cons (it_str hw2.1 hw2.2) its_nil))))
      (gvs_cons (gv_tup e31 (by show 2 ≤ 10; decide) (its_cons (it_str (x := "send") (by decide +kernel) (by decide +kernel)) (its_cons (it_str (x := "send") (by decide +kernel) (by decide +kernel)) its_nil)))
      (gvs_cons (gv_tup e32 (by show 2 ≤ 10; decide) (its_cons (it_str (x := "read") (by decide +kernel) (by decide +kernel)) (its_cons (it_str hn9.1 hn9.2) its_nil)))
      (gvs_cons (gv_tup e35 (by show 3 ≤ 10; decide) (its_cons (it_str (x := "order") (by decide +kernel) (by decide +kernel)) (its_cons (it_str (x := "p") (by decide +kernel) (by decide +kernel)) (its_cons (it_str (x := "q") (by decide +kernel) (by decide +kernel)) its_nil))))
      (gvs_cons (gv_tup e36 (by show 3 ≤ 10; decide) (its_cons (it_str (x := "") (by decide +kernel) (by decide +kernel)) (its_cons (it_str (x := "p") (by decide +kernel) (by decide +kernel)) (its_cons (it_str (x := "q") (by decide +kernel) (by decide +kernel)) its_nil))))
      gvs_nil)))))))))))))))))))))))))))))
end
end K1
/-! What stays where tables of code objects grow. -/
namespace K1
open PySem PySem.Spec PyProof.Rows L2 K0 LamX

section
variable {K : PySem.W.Frag} {H H' : Hp}
theorem ext_at {a : Addr} {o : HO} (s : ExtN H H') (e : H a = some o) (n : ∀ ps, o ≠ .tbl ps := by intro ps z; cases z) : H' a = some o := s a o e n
theorem tyx_ext {v : V} {t : Value} (h : TyX K H v t) (s : ExtN H H') : TyX K H' v t := by
  cases h with
  | base b =>
    refine .base ?_
    cases b with
    | non => exact .non
    | bl x => exact .bl x
    | int i => exact .int i
    | str x => exact .str x
    | flt x => exact .flt x
    | lst e => exact .lst (ext_at s e)
    | frz e => exact .frz (ext_at s e)
    | tup e => exact .tup (ext_at s e)
    | dK e => exact .dK (ext_at s e)
    | dT e => exact .dT (ext_at s e)
    | ins e cl ha hn htk hm => exact .ins (ext_at s e) cl ha hn htk hm
  | byt b => exact .byt b
  | set e => exact .set (ext_at s e)
  | kList e c => exact .kList e c
  | kTuple e c => exact .kTuple e c
  | kDict e c => exact .kDict e c
  | fTuple e => exact .fTuple (ext_at s e)
  | fDict e => exact .fDict (ext_at s e)
theorem sqT_ext {a : Addr} {xs : List V} (h : SqT K H a xs) (s : ExtN H H') : SqT K H' a xs := by
  rcases h with (h | ⟨o, h⟩) | h
  · exact .inl (.inl (ext_at s h))
  · exact .inl (.inr ⟨o, ext_at s h⟩)
  · exact .inr h
theorem sqL_ext {a : Addr} {xs : List V} (h : SqL K H a xs) (s : ExtN H H') : SqL K H' a xs := by
  rcases h with (h | ⟨o, h⟩) | h
  · exact .inl (.inl (ext_at s h))
  · exact .inl (.inr ⟨o, ext_at s h⟩)
  · exact .inr h
mutual
theorem dp_ext (s : ExtN H H') : ∀ {v : V} {d : PyData}, Dp K H v d → Dp K H' v d
  | _, _, .non => .non
  | _, _, .bl b => .bl b
  | _, _, .int i => .int i
  | _, _, .str x => .str x
  | _, _, .lst h hs => .lst (sqL_ext h s) (dps_ext s hs)
  | _, _, .tup h hs => .tup (sqT_ext h s) (dps_ext s hs)
theorem dps_ext (s : ExtN H H') : ∀ {vs : List V} {ds : List PyData}, DpAll K H vs ds → DpAll K H' vs ds
  | _, _, .nil => .nil
  | _, _, .cons h t => .cons (dp_ext s h) (dps_ext s t)
end
theorem nv_ext {v : V} {o : Option PySem.Str} (h : Nv K H v o) (s : ExtN H H') : Nv K H' v o := by
  cases h with
  | str x h => exact .str x h
  | no ty h => exact .no (tyx_ext ty s) h
theorem tv_ext {v : V} {o : Option (List V)} (h : Tv K H v o) (s : ExtN H H') : Tv K H' v o := by
  cases h with
  | tup e ty => exact .tup (sqT_ext e s) (tyx_ext ty s)
  | no ty h => exact .no (tyx_ext ty s) h
theorem ev_ext {v : V} {r : Bool} (h : Ev K H v r) (s : ExtN H H') : Ev K H' v r := by
  cases h with
  | no h => exact .no (tv_ext h s)
  | len h hl hz => exact .len (tv_ext h s) hl hz
  | two h hd sd hn => exact .two (tv_ext h s) (dp_ext s hd) sd (nv_ext hn s)
theorem lv_ext {v : V} {r : Bool} (h : Lv K H v r) (s : ExtN H H') : Lv K H' v r := by
  cases h with
  | no h => exact .no (tv_ext h s)
  | len h hl hz => exact .len (tv_ext h s) hl hz
  | three h hx hy hz px py pz sx sy sz => exact .three (tv_ext h s) (nv_ext hx s) (nv_ext hy s) (nv_ext hz s) (dp_ext s px) (dp_ext s py) (dp_ext s pz) sx sy sz
theorem eo_ext {v : V} {o : Option (PySem.Str × PySem.Str)} (h : Eo K H v o) (s : ExtN H H') : Eo K H' v o := by
  cases h with
  | no h => exact .no (ev_ext h s)
  | yes h hz sd hn hl => exact .yes (tv_ext h s) hz sd hn hl
theorem gv_ext {v : V} (h : Gv K H v) (s : ExtN H H') : Gv K H' v :=
  let ⟨⟨o, n⟩, ⟨r, e⟩, ⟨t, l⟩⟩ := h
  ⟨⟨o, nv_ext n s⟩, ⟨r, ev_ext e s⟩, ⟨t, lv_ext l s⟩⟩
theorem iv_ext {v : V} {o : Option Int} (h : Iv K H v o) (s : ExtN H H') : Iv K H' v o := by
  cases h with
  | int i => exact .int i
  | bl b => exact .bl b
  | no ty h => exact .no (tyx_ext ty s) h
theorem av_ext {v : V} {r : Bool} (h : Av K H v r) (s : ExtN H H') : Av K H' v r := by
  cases h with
  | no h => exact .no (tv_ext h s)
  | tup h hs hl => exact .tup (tv_ext h s) (paired_map (fun a b q => nv_ext q s) hs) hl
theorem wo_ext {v : V} {o : Option (List PySem.Str)} (h : Wo K H v o) (s : ExtN H H') : Wo K H' v o := by
  cases h with
  | no h => exact .no (av_ext h s)
  | yes h hn hl => exact .yes (tv_ext h s) hn hl
theorem od_ext {v : V} {d : PyData} (h : Od H v d) (s : ExtN H H') : Od H' v d := by
  cases h with
  | non => exact .non
  | bl b => exact .bl b
  | int i h => exact .int i h
  | str x h => exact .str x h
  | tup e => exact .tup (ext_at s e)
theorem ext_of (s : Same H H') : ExtN H H' := ExtN.of s
/-- the dice alone may change: the tables stand -/
theorem tabs_but {T : List (Addr × PySem.Str)} {p : Addr} {x y z : Int} (D : Dice H p x y z) (t : Tabs T H) (s : ∀ b o, b ≠ p → H b = some o → H' b = some o) : Tabs T H' := fun q hq => by
  obtain ⟨ps, h1, h2, h3⟩ := t q hq
  have hd := D.at_
  refine ⟨ps, s _ _ (ne_of h1 hd (by intro z; cases z)) h1, h2, fun pos cv hc => ?_⟩
  obtain ⟨c, e1, e2⟩ := h3 pos cv hc
  exact ⟨c, e1, s _ _ (ne_of e2 hd (by intro z; unfold CodeO at z; cases z)) e2⟩
theorem dice_ext {p : Addr} {x y z : Int} (D : Dice H p x y z) (s : ExtN H H') : Dice H' p x y z := ⟨ext_at s D.at_, D.x0, D.x1, D.y0, D.y1, D.z0⟩
end
/-- a def that is called where no repr is under way, whose code object is known -/
theorem fng_ofC {P : Program} {w : World} {K : PySem.W.Frag} {mg : PySem.Str → Option Value} {base : Heap} {k : Nat} {f c : Addr} {x qual : PySem.Str} {st : Stmt} {fd : FuncData} {N ps : List PySem.Str} {sp : Sp} (F : Fun K x qual st f fd) (hc : fd.code = .ref c) (S : FnScope N ps (defScope st)) (len : ∀ vs H Q E, sp vs H Q E → vs.length = ps.length)
    (hbody : ∀ (A : Around) (outer : List Env) (s : Shared) (H : Hp) (vs : List V) (Q : VK) (E : XK), A.guards = some [] → Room k (A.deeper (envOfC qual (defScope st) s.heap.objs.size f (.ref c))) → sp vs H Q E →
      ∃ t, PSs (cxOf CX0 P w K mg base N qual (defScope st) f (.ref c) A outer s H E).nox (defBody st) t ∧ t { nx := fun _ H' => Q .non H', rt := Q } (start N vs) H) : FnG P w K mg base (k + 1) f fd ps sp := by
  obtain ⟨oc, od, kV, doc, pm, an, cdv, ct, osl, rfl, lk, hcd⟩ := F.ex
  obtain rfl : cdv = .ref c := hc
  refine ⟨len, fun A outer s H args us vs Q E hg hr e0 hb r hsp => ?_⟩
  refine run_ofS (N := N) (ps := ps) lk hcd S hr e0 hb r (len _ _ _ _ hsp) fun hr' => ?_
  obtain ⟨t, ht, hq⟩ := hbody A outer s H vs Q E hg hr' hsp
  exact ⟨t, ht.nox, hq⟩
end K1
/-! A turn of the law: the values near names. -/
namespace K1
open PySem PySem.Spec PyProof.Rows L2 K0 LamX

abbrev sRight : Stmt := top 31
abbrev nRight : List PySem.Str := ["_law_dice_here", "_law_value", "_law_told_here", "_law_due", "_law_barred", "_law_turn", "_law_more", "_law_total", "_law_some", "_law_odd", "_law_bad"]
theorem scRight : FnScope nRight ["_law_dice_here"] (defScope sRight) := ⟨rfl, rfl, rfl, by decide +kernel, rfl, by decide +kernel, by decide +kernel⟩
/-- the body of the loop that a def begins with -/
def forBody (s : Stmt) : List Stmt := match defBody s with
  | .For _ _ b _ _ :: _ => b
  | _ => []
/-- the lambdas' name -/
abbrev qL : PySem.Str := (envOfC "_law_right" (defScope sRight) 0 0 .none).qual ++ "<lambda>"
theorem tabs_one {P0 : Addr} {q : PySem.Str} : ∀ p ∈ [(P0, q)], p.1 = P0 → p.2 = q := fun p hp _ => by
  rw [List.mem_singleton.mp hp]
/-- the defs that a turn calls -/
structure Defs (K : PySem.W.Frag) (mg : PySem.Str → Option Value) (CN CI fI c P0 : Addr) : Prop where
  T : Bare mg
  C : Cons mg
  XN : ExN K mg CN
  XI : ExI K mg CI fI
  Z : Two K CN CI
section
variable {P : Program} {w : World} {K : PySem.W.Frag} {mg : PySem.Str → Option Value} {base : Heap}
theorem turn_at {z : PySem.Str} (h : evd (.str z) = true) : valV (mergeK ([] : List (Key × V)) [(Sum.inr ("send" : PySem.Str), V.str "read"), (Sum.inr ("read" : PySem.Str), V.str "send")]) (Sum.inr z) = some (.str (turn z)) := by
  have hz : z = "send" ∨ z = "read" := by
    unfold evd at h
    simpa using h
  rcases hz with rfl | rfl
  · have e : turn ("send" : PySem.Str) = "read" := by decide +kernel
    rw [e] <;> rfl
  · have e : turn ("read" : PySem.Str) = "send" := by decide +kernel
    rw [e] <;> rfl
theorem nm_ok {n : PySem.Str} (h : nm n = true) : PyData.strOk n = true := by
  unfold nm at h
  simp only [Bool.and_eq_true] at h
  unfold PyData.strOk
  rw [← Array.all_toList, List.all_eq_true]
  intro c hc
  have z := List.all_eq_true.mp h.2.2 c hc
  unfold low at z
  simp at z ⊢
  omega
theorem turn_shp (z : PySem.Str) {n : PySem.Str} (h : nm n = true) : Shp (.tuple [.str (turn z), .str n]) := by
  have e : PyData.strOk (turn z) = true := by
    unfold turn
    split <;> decide +kernel
  exact ⟨by show (PyData.strOk (turn z) && (PyData.strOk n && true)) = true; rw [e, nm_ok h] <;> rfl, by simp [PyData.depth, PyData.depthAll]⟩
/-- one value: how it reads -/
def tValue (K : PySem.W.Frag) (P0 : Addr) : TS := fun D σ H => ∃ (p : Addr) (v : V) (l1 l2 : Option V) (rest : L2.St), σ = some (.ref p) :: some v :: l1 :: l2 :: rest ∧ Tabs [(P0, qL)] H ∧ Gv K H v ∧
      ∀ (u1 u2 : V) (H' : Hp), ExtN H H' → Tabs [(P0, qL)] H' → D.nx (some (.ref p) :: some v :: some u1 :: some u2 :: rest) H'
/-- one value -/
theorem value_turn {f g c P0 CN CI : Addr} {A : Around} {outer : List Env} {s : Shared} {H0 : Hp} {E0 : XK} {fN fE fL hN hE hL fO gT : Addr} {fdN fdE fdL hdN hdE hdL fdO fdT : FuncData}
    (hgd : A.guards = some []) (hr : Room 6 (A.deeper (envOfC "_law_right" (defScope sRight) s.heap.objs.size f (.ref c)))) (T : Bare mg) (Z : Two K CN CI) (TB : TabB base mg c P0) (mN : mg "InvalidName" = some (.ref CN)) (mI : mg "InvalidNumber" = some (.ref CI))
    (FN : Fun K "is_name" "is_name" sIsName fN fdN) (bN : Binds K fdN ["value"] []) (mNm : mg "is_name" = some (.ref fN)) (GN : FnOk P w K mg base CX0 1 fN fdN ["value"] (spIsName K))
    (FE : Fun K "is_event" "is_event" sIsEvent fE fdE) (bE : Binds K fdE ["value"] []) (mE : mg "is_event" = some (.ref fE)) (GE : FnOk P w K mg base CX0 3 fE fdE ["value"] (spIsEvent K))
    (FL : Fun K "is_letter" "is_letter" sIsLetter fL fdL) (bL : Binds K fdL ["value"] []) (mL : mg "is_letter" = some (.ref fL)) (GL : FnOk P w K mg base CX0 3 fL fdL ["value"] (spIsLetter K))
    (FHN : Fun K "_law_is_name" "_law_is_name" sLName hN hdN) (bHN : Binds K hdN ["_law_value"] []) (mHN : mg "_law_is_name" = some (.ref hN)) (HN : FnOk P w K mg base CX0 1 hN hdN ["_law_value"] (spIsName K))
    (FHE : Fun K "_law_is_event" "_law_is_event" sLEvent hE hdE) (bHE : Binds K hdE ["_law_value"] []) (mHE : mg "_law_is_event" = some (.ref hE)) (HE : FnOk P w K mg base CX0 3 hE hdE ["_law_value"] (spIsEvent K))
    (FHL : Fun K "_law_is_letter" "_law_is_letter" sLLetter hL hdL) (bHL : Binds K hdL ["_law_value"] []) (mHL : mg "_law_is_letter" = some (.ref hL)) (HL : FnOk P w K mg base CX0 3 hL hdL ["_law_value"] (spIsLetter K))
    (FO : Fun K "other_event" "other_event" sOther fO fdO) (bO : Binds K fdO ["event"] []) (mO : mg "other_event" = some (.ref fO)) (GO : FnOk P w K mg base (L2.CX P w) 4 fO fdO ["event"] (spOther K CN))
    (FTold : Fun K "_law_told" "_law_told" sTold gT fdT) (bTold : Binds K fdT ["_law_call"] []) (mTold : mg "_law_told" = some (.ref gT)) :
    PSs (cxOf CX0 P w K mg base nRight "_law_right" (defScope sRight) f (.ref c) A outer s H0 E0).nox (forBody sRight) (tValue K P0) := by
  obtain ⟨oc, od, kV, doc, pm, an, cdvT, ct, osl, rfl, lkT, hcT⟩ := FTold.ex
  refine pss_conv (pss_cons (ps_set (i := 2) scRight.nd rfl (Or.inl rfl) (pe_lst (pa_cons (pe_call GN (hr.mono (by decide)) (by rfl) mNm FN.kp bN .nil pass0 (pa_cons (pv 1) pa_nil)) (pa_cons (pe_call GE (hr.mono (by decide)) (by rfl) mE FE.kp bE .nil pass0 (pa_cons (pv 1) pa_nil)) (pa_cons (pe_call GL (hr.mono (by decide)) (by rfl) mL FL.kp bL .nil pass0 (pa_cons (pv 1) pa_nil)) pa_nil)))))
      (pss_cons (ps_if (pt_cmpR op_ne (pe_callB (call_repr hgd hr) (by rfl) T.rep (by decide +kernel) (pa_cons (pv 2) pa_nil)) (pe_callB (call_repr hgd hr) (by rfl) T.rep (by decide +kernel) (pa_cons (pe_lst (pa_cons (pe_call HN (hr.mono (by decide)) (by rfl) mHN FHN.kp bHN .nil pass0 (pa_cons (pv 1) pa_nil)) (pa_cons (pe_call HE (hr.mono (by decide)) (by rfl) mHE FHE.kp bHE .nil pass0 (pa_cons (pv 1) pa_nil)) (pa_cons (pe_call HL (hr.mono (by decide)) (by rfl) mHL FHL.kp bHL .nil pass0 (pa_cons (pv 1) pa_nil)) pa_nil)))) pa_nil)) (nomark _)) (pss_one (ps_ret pe_bl)) pss_nil)
      (pss_cons (ps_set (i := 3) scRight.nd rfl (Or.inl rfl) pe_str)
      (pss_cons (ps_if (pt_val (pe_call HE (hr.mono (by decide)) (by rfl) mHE FHE.kp bHE .nil pass0 (pa_cons (pv 1) pa_nil))) (pss_one (ps_set (i := 3) scRight.nd rfl (Or.inl rfl) (pe_tup (pa_cons (pe_dget (hu_of hr) (pe_disp (pps_cons pe_str pe_str (pps_cons pe_str pe_str pps_nil)) (by rfl) (by rfl) (fun z => by cases z) (by decide)) (pe_ix ix_tup (pv 1) pe_int (fun _ _ => rfl)) (fun _ _ => rfl)) (pa_cons (pe_ix ix_tup (pv 1) pe_int (fun _ _ => rfl)) pa_nil))))) pss_nil)
      (pss_one (ps_if (pt_cmpR (op_neD hr.units) (pe_lamcall (T := [(P0, qL)]) (TT := TTwo K CN CI) (x := "_law_told") (a := "_law_call") (k := 4) (t := fun E => tCall (spOther K CN) [] E (tCons (tVar 1) tNil)) (by rfl) mTold FTold.kp lkT hcT bTold scTold rfl (.inl rfl) (told_two hgd hr mN mI T.rep Z) TB rfl (.head _) tabs_one hr (lamS_by (show lamSB (defScope sRight) _ = true by decide +kernel)) rfl (fun _ _ _ _ _ => rfl) (fun A outer s H E f c1 hr2 => (pe_call (E := E) GO hr2 (by rfl) mO FO.kp bO .nil (passes_call (takes_of rfl rfl rfl rfl) fun _ _ _ _ h => h) (pa_cons (pv 1) pa_nil)))) (pv 3) (nomark _)) (pss_one (ps_ret pe_bl)) pss_nil)))))) fun pins s1 σ H D I h => ?_
  obtain ⟨p, v, l1, l2, rest, rfl, hT, ⟨⟨o, hn⟩, ⟨re, he⟩, ⟨rl, hl⟩⟩, k⟩ := h
  refine ⟨_, rfl, v, o, rfl, hn, _, rfl, v, re, rfl, he, fun H1 s1 => ?_⟩
  refine ⟨_, rfl, v, rl, rfl, lv_ext hl (ext_of s1), fun H2 s2 => ?_⟩
  refine ⟨(by show 3 ≤ sizeLine; decide), fun q1 n1 => ?_⟩
  have c3 := (s1.trans s2).trans (sn (o := .lst [.bl (isNm o), .bl re, .bl rl]) n1)
  refine ⟨_, rfl, q1, .bl (isNm o), [.bl re, .bl rl], [.bool (isNm o), .bool re, .bool rl], rfl, upd_same, .cons (.bl _) (.cons (.bl _) (.cons (.bl _) .nil)), (by show 3 ≤ 100; decide), ?_⟩
  refine ⟨_, rfl, v, o, rfl, nv_ext hn (ext_of c3), _, rfl, v, re, rfl, ev_ext he (ext_of c3), fun H3 s3 => ?_⟩
  refine ⟨_, rfl, v, rl, rfl, lv_ext hl (ext_of (c3.trans s3)), fun H4 s4 => ?_⟩
  refine ⟨(by show 3 ≤ sizeLine; decide), fun q2 n2 => ?_⟩
  have c5 := ((c3.trans s3).trans s4).trans (sn (o := .lst [.bl (isNm o), .bl re, .bl rl]) n2)
  refine ⟨q2, .bl (isNm o), [.bl re, .bl rl], [.bool (isNm o), .bool re, .bool rl], rfl, upd_same, .cons (.bl _) (.cons (.bl _) (.cons (.bl _) .nil)), (by show 3 ≤ 100; decide), rfl, _, rfl, ?_⟩
  refine ite2 (fun h1 => absurd h1 (by simp)) (fun _ => ?_)
  refine ⟨_, rfl, v, re, rfl, ev_ext he (ext_of c5), fun H6 s6 => ⟨_, rfl, ?_⟩⟩
  have c6 := c5.trans s6
  have shn : SeqAt.shaped (.str ("name" : PySem.Str)) = true := by decide +kernel
  obtain ⟨eo, hoe, hs⟩ := he.eo
  subst hs
  cases hoe with
  | no h0 =>
    refine ⟨hT.ext c6, fun H7 e7 T7 => ?_⟩
    have x7 := (ext_of c6).trans e7
    refine ⟨_, rfl, v, none, rfl, eo_ext (.no h0) x7, fun H8 s8 => .inl ⟨rfl, ?_⟩⟩
    refine ⟨_, rfl, .str "name", .str "name", .str _, .str _, shn, shn, _, rfl, ?_⟩
    refine ite2 (fun h1 => absurd h1 (by rw [SeqAt.eqv_refl _ (SeqAt.canLay_of_shaped shn)] <;> simp)) (fun _ => ?_)
    exact k _ _ H8 (x7.trans (ext_of s8)) (T7.ext s8)
  | @yes a z n h0 hz sd hnm hln =>
    cases h0 with
    | tup he0 ty =>
      have e6 := sqT_ext he0 (ext_of c6)
      refine fun d nd => ?_
      refine ⟨upd_same, [(Sum.inr ("send" : PySem.Str), V.str "read"), (Sum.inr ("read" : PySem.Str), V.str "send")], rfl, (by show 2 ≤ 15; decide), ?_⟩
      have c7 : Same H6 (upd (upd H6 d (.dK [])) d (.dK (mergeK [] [(Sum.inr ("send" : PySem.Str), V.str "read"), (Sum.inr ("read" : PySem.Str), V.str "send")]))) := fun b u eb => by
        rw [upd_ne (ne_of_none eb nd), upd_ne (ne_of_none eb nd)] <;> exact eb
      have e7 := sqT_same e6 c7
      refine ⟨_, rfl, a, _, 0, .str z, rfl, rfl, e7, rfl, d, _, rfl, (by rw [← turn_at hz]; exact DGet.k (k := Sum.inr z) upd_same), ?_⟩
      refine ⟨_, rfl, a, _, 1, .str n, rfl, rfl, e7, rfl, (by show 2 ≤ sizeLine; decide), fun t nt => ?_⟩
      have c8 := (c6.trans c7).trans (sn (o := .tup [.str (turn z), .str n]) nt)
      refine ⟨hT.ext c8, fun H9 e9 T9 => ?_⟩
      have x9 := (ext_of c8).trans e9
      refine ⟨_, rfl, .ref a, some (z, n), rfl, eo_ext (.yes (.tup he0 ty) hz sd hnm hln) x9, fun q H10 s10 eq => ?_⟩
      have et10 := s10 _ _ (ext_at e9 (upd_same (a := t)))
      have sh := shp_shaped (turn_shp z hnm)
      refine ⟨_, rfl, .tuple [.str (turn z), .str n], .tuple [.str (turn z), .str n], .tup (SqT.of eq) (.cons (.str _) (.cons (.str _) .nil)), .tup (SqT.of et10) (.cons (.str _) (.cons (.str _) .nil)), sh, sh, _, rfl, ?_⟩
      refine ite2 (fun h1 => absurd h1 (by rw [SeqAt.eqv_refl _ (SeqAt.canLay_of_shaped sh)] <;> simp)) (fun _ => ?_)
      exact k _ _ H10 (x9.trans (ext_of s10)) (T9.ext s10)
end
end K1
/-! A turn of the law: what is refused. -/
namespace K1
open PySem PySem.Spec PyProof.Rows L2 K0 LamX

/-- a value that is no number of names, and how it reads -/
def OddOk (K : PySem.W.Frag) (H : Hp) (v : V) (d : PyData) : Prop := Od H v d ∧ PyData.strOk ("number " ++ d.shown) = true ∧ ∃ oi, Iv K H v oi ∧ few oi = false
theorem odd_ext {K : PySem.W.Frag} {H H' : Hp} {v : V} {d : PyData} (h : OddOk K H v d) (s : ExtN H H') : OddOk K H' v d :=
  let ⟨a, b, oi, c, e⟩ := h
  ⟨od_ext a s, b, oi, iv_ext c s, e⟩
theorem wo_no {K : PySem.W.Frag} {H : Hp} {v : V} {t : String} (ty : TyX K H v (.type t)) (h : kitB t "tuple" = some false) : Wo K H v none := .no (.no (.no ty h))
theorem wo_tup {K : PySem.W.Frag} {H : Hp} {a : Addr} {xs : List V} {os : List (Option PySem.Str)} (e : H a = some (.tup xs)) (hs : Paired (Nv K H) xs os) (hl : xs.length ≤ 1000) (hf : os.all isNm = false) : Wo K H (.ref a) none := by
  have z := Av.tup (.tup (SqT.of e) (.base (.tup e))) hs hl
  rw [hf] at z
  exact .no z
theorem few_nat {m : Nat} (h : m ≤ 500) : few (some (m : Int)) = true := by
  show (decide (0 ≤ (m : Int)) && decide ((m : Int) ≤ 500)) = true
  rw [decide_eq_true (by omega), decide_eq_true (by omega)] <;> rfl
/-- the dice apart -/
def Bp (p : Addr) (H H' : Hp) : Prop := ∀ b o, b ≠ p → (∀ ps, o ≠ .tbl ps) → H b = some o → H' b = some o
theorem Bp.ext {p : Addr} {H H1 H2 : Hp} (a : Bp p H H1) (b : ExtN H1 H2) : Bp p H H2 := fun c o hc n e => b c o (a c o hc n e) n
theorem Bp.but {p : Addr} {H H1 H2 : Hp} (a : Bp p H H1) (b : ∀ c o, c ≠ p → H1 c = some o → H2 c = some o) : Bp p H H2 := fun c o hc n e => b c o hc (a c o hc n e)
theorem Bp.refl (p : Addr) (H : Hp) : Bp p H H := fun _ _ _ _ e => e
/-- a list that is written: the tables stand -/
theorem tabs_upd {T : List (Addr × PySem.Str)} {H : Hp} {l : Addr} {xs ys : List V} (t : Tabs T H) (h : H l = some (.lst xs)) : Tabs T (upd H l (.lst ys)) := fun q hq => by
  obtain ⟨ps, h1, h2, h3⟩ := t q hq
  refine ⟨ps, by rw [upd_ne (ne_of h1 h (by intro z; cases z))] <;> exact h1, h2, fun pos cv hc => ?_⟩
  obtain ⟨c, e1, e2⟩ := h3 pos cv hc
  exact ⟨c, e1, by rw [upd_ne (ne_of e2 h (by intro z; unfold CodeO at z; cases z))] <;> exact e2⟩
theorem ext_upd {H H' : Hp} {l : Addr} {o : HO} (s : ExtN H H') (n : H l = none) : ExtN H (upd H' l o) := fun b u e m => by
  rw [upd_ne (ne_of_none e n)]
  exact s b u e m
section
variable {P : Program} {w : World} {K : PySem.W.Frag} {mg : PySem.Str → Option Value} {base : Heap}
theorem wo_empty {H : Hp} {e0 : Addr} {o : Obj} {its : Array Value} {n : Nat} (k1 : K.lookup e0 = some o) (k2 : o.cls = .type "tuple") (k3 : o.data = .seq #[] n) : Wo K H (.ref e0) (some []) :=
  .yes (.tup (.inr ⟨o, #[], n, k1, k2, k3, by rw [sizeLine_eq]; decide, .nil⟩) (.kTuple k1 k2)) (fun _ h => nomatch h) (by decide)
/-- the end of a turn: how it reads -/
def tEnd (P0 : Addr) : TS := fun D σ H => ∃ (p : Addr) (x y z : Int) (i1 i2 i3 i4 i5 i6 i7 i8 i9 i10 : Option V), σ = [some (.ref p), i1, i2, i3, i4, i5, i6, i7, i8, i9, i10] ∧ Tabs [(P0, qL)] H ∧ Dice H p x y z ∧
      ∀ (x' z' : Int) (H' : Hp), Dice H' p x' y z' → Tabs [(P0, qL)] H' → Bp p H H' → D.rt (.bl true) H'
theorem end_turn {f g c P0 CN CI e0 : Addr} {A : Around} {outer : List Env} {s : Shared} {H0 : Hp} {E0 : XK} {fP fW gT : Addr} {fdP fdW fdT : FuncData} {ds : List Value}
    (hgd : A.guards = some []) (hr : Room 6 (A.deeper (envOfC "_law_right" (defScope sRight) s.heap.objs.size f (.ref c)))) (T : Bare mg) (Z : Two K CN CI) (TB : TabB base mg c P0) (mN : mg "InvalidName" = some (.ref CN)) (mI : mg "InvalidNumber" = some (.ref CI))
    (FP : Fun K "_law_pick" "_law_pick" sPick fP fdP) (bP : Binds K fdP ["_law_dice_here", "_law_items"] []) (mP : mg "_law_pick" = some (.ref fP)) (GP : FnOk P w K mg base CX0 2 fP fdP ["_law_dice_here", "_law_items"] spPick)
    (mW : mg "new_names" = some (.ref fW)) (kW : PySem.W.keepIn K (.ref fW) = true) (bW : Binds K fdW ["many", "without"] ds) (vW : Vals [V.ref e0] ds) (KB : KBn K fdW ["many", "without"] 1 ["without"] (fun us ws => us ++ ws) (fun vs zs => vs ++ zs))
    (GW : FnOk P w K mg base (L2.CX P w) 3 fW fdW ["many", "without"] (spNew K CN CI)) (hE : ∀ H : Hp, Wo K H (.ref e0) (some []))
    (FTold : Fun K "_law_told" "_law_told" sTold gT fdT) (bTold : Binds K fdT ["_law_call"] []) (mTold : mg "_law_told" = some (.ref gT)) :
    PSs (cxOf CX0 P w K mg base nRight "_law_right" (defScope sRight) f (.ref c) A outer s H0 E0).nox ((defBody sRight).drop 5) (tEnd P0) := by
  obtain ⟨oc, od, kV, doc, pm, an, cdvT, ct, osl, rfl, lkT, hcT⟩ := FTold.ex
  refine pss_conv (pss_cons (ps_set (i := 9) scRight.nd rfl (Or.inr rfl) (pe_call GP (hr.mono (by decide)) (by rfl) mP FP.kp bP .nil pass0 (pa_cons (pv 0) (pa_cons (pe_lst (pa_cons (pe_un un_neg pe_int) (pa_cons pe_int (pa_cons pe_non (pa_cons pe_bl (pa_cons pe_str (pa_cons (pe_op op_pow pe_int pe_int) (pa_cons (pe_tup pa_nil) pa_nil)))))))) pa_nil))))
      (pss_cons (ps_set (i := 10) scRight.nd rfl (Or.inr rfl) (pe_call GP (hr.mono (by decide)) (by rfl) mP FP.kp bP .nil pass0 (pa_cons (pv 0) (pa_cons (pe_lst (pa_cons pe_non (pa_cons pe_str (pa_cons (pe_lst (pa_cons pe_str pa_nil)) (pa_cons (pe_tup (pa_cons pe_str pa_nil)) (pa_cons (pe_tup (pa_cons pe_str (pa_cons pe_non pa_nil))) (pa_cons (pe_tup (pa_cons pe_str (pa_cons pe_str pa_nil))) (pa_cons pe_dnewK (pa_cons pe_int (pa_cons (pe_tup (pa_cons pe_str (pa_cons (pe_lst pa_nil) pa_nil))) (pa_cons (pe_tup (pa_cons pe_dnewK (pa_cons pe_str pa_nil))) pa_nil))))))))))) pa_nil))))
      (pss_cons (ps_set (i := 2) scRight.nd rfl (Or.inl rfl) (pe_lst (pa_cons (pe_lamcall (T := [(P0, qL)]) (TT := TTwo K CN CI) (x := "_law_told") (a := "_law_call") (k := 4) (t := fun E => tCall (spNew K CN CI) [.ref e0] E (tCons (tVar 9) tNil)) (by rfl) mTold FTold.kp lkT hcT bTold scTold rfl (.inl rfl) (told_two hgd hr mN mI T.rep Z) TB rfl (.head _) tabs_one hr (lamS_by (show lamSB (defScope sRight) _ = true by decide +kernel)) rfl (fun _ _ _ _ _ => rfl) (fun A outer s H E f c1 hr2 => (pe_call (E := E) GW (hr2.mono (by decide)) (by rfl) mW kW bW vW (passes_call (takes_of rfl rfl rfl rfl) fun _ _ _ _ h => h) (pa_cons (pv 9) pa_nil)))) pa_nil)))
      (pss_cons (ps_expr (pe_bm PySem.F.plainAttrs_list PySem.F.slot_list_append PySem.F.type_list_append mt_append (pv 2) (pa_cons (pe_lamcall (T := [(P0, qL)]) (TT := TTwo K CN CI) (x := "_law_told") (a := "_law_call") (k := 4) (t := fun E => tCallN 1 (["without"] : List PySem.Str).length (spNew K CN CI) (fun vs zs => vs ++ zs) E (tCons (tVar 9) tNil) (tCons (tVar 10) tNil)) (by rfl) mTold FTold.kp lkT hcT bTold scTold rfl (.inl rfl) (told_two hgd hr mN mI T.rep Z) TB rfl (.head _) tabs_one hr (lamS_by (show lamSB (defScope sRight) _ = true by decide +kernel)) rfl (fun _ _ _ _ _ => rfl) (fun A outer s H E f c1 hr2 => (pe_callN (E := E) GW (hr2.mono (by decide)) (by rfl) mW kW KB (passes_call (takes_of rfl rfl rfl rfl) fun _ _ _ _ h => h) (pa_cons (pv 9) pa_nil) (pk_cons (pv 10) pk_nil)))) pa_nil)))
      (pss_cons (ps_expr (pe_bm PySem.F.plainAttrs_list PySem.F.slot_list_append PySem.F.type_list_append mt_append (pv 2) (pa_cons (pe_lamcall (T := [(P0, qL)]) (TT := TTwo K CN CI) (x := "_law_told") (a := "_law_call") (k := 4) (t := fun E => tCallN 1 (["without"] : List PySem.Str).length (spNew K CN CI) (fun vs zs => vs ++ zs) E (tCons (tC (.int 3)) tNil) (tCons (tVar 10) tNil)) (by rfl) mTold FTold.kp lkT hcT bTold scTold rfl (.inl rfl) (told_two hgd hr mN mI T.rep Z) TB rfl (.head _) tabs_one hr (lamS_by (show lamSB (defScope sRight) _ = true by decide +kernel)) rfl (fun _ _ _ _ _ => rfl) (fun A outer s H E f c1 hr2 => (pe_callN (E := E) GW (hr2.mono (by decide)) (by rfl) mW kW KB (passes_call (takes_of rfl rfl rfl rfl) fun _ _ _ _ h => h) (pa_cons pe_int pa_nil) (pk_cons (pv 10) pk_nil)))) pa_nil)))
      (pss_one (ps_ret (pe_cmpR (op_eqD hr.units) (pv 2) (pe_op op_cat (pe_op op_rep (pe_lst (pa_cons (pe_op op_add_str pe_str (pe_callB (call_reprO hgd hr.units) (by rfl) T.rep (by decide +kernel) (pa_cons (pv 9) pa_nil))) pa_nil)) pe_int) (pe_lst (pa_cons pe_str pa_nil))) (nomark _))))))))) fun pins s1 σ H D I h => ?_
  obtain ⟨p, x, y, z, i1, i2, i3, i4, i5, i6, i7, i8, i9, i10, rfl, hT, D0, k⟩ := h
  refine ⟨_, rfl, _, rfl, _, _, rfl, rfl, ⟨by decide, by decide, by decide⟩, (by show 0 ≤ sizeLine; omega), fun t nt => ?_⟩
  refine ⟨(by show 7 ≤ sizeLine; decide), fun l nl => ?_⟩
  have c1 := (sn (o := .tup []) nt).trans (sn (o := .lst [.int (-1), .int 501, .non, .bl true, .str "3", .int ((10 : Int) ^ (39 : Int).toNat), .ref t]) nl)
  have et : (upd (upd H t (.tup [])) l (.lst [.int (-1), .int 501, .non, .bl true, .str "3", .int ((10 : Int) ^ (39 : Int).toNat), .ref t])) t = some (.tup []) := sn nl _ _ upd_same
  have pl : p ≠ l := ne_of_none ((sn (o := .tup []) nt) _ _ D0.at_) nl
  refine ⟨p, l, x, y, z, _, rfl, D0.same c1, pl, upd_same, (by show 0 < 7; decide), (by show 7 < 1000; decide), fun j v x1 z1 H1 hv D1 _ hk1 => ?_⟩
  have pt : p ≠ t := ne_of_none D0.at_ nt
  have et1 := hk1 t _ pt.symm et
  have T1 : Tabs [(P0, qL)] H1 := tabs_but (D0.same c1) (hT.ext c1) hk1
  have b1 : Bp p H H1 := (Bp.refl p H |>.ext (ext_of c1)).but hk1
  obtain ⟨dt, hodd⟩ : ∃ dt, ∀ H' : Hp, H' t = some (.tup []) → OddOk K H' v dt := match j, hv with
    | 0, hv => by cases hv; exact ⟨_, fun H' e => ⟨.int _ (by decide), by decide +kernel, _, .int _, by decide +kernel⟩⟩
    | 1, hv => by cases hv; exact ⟨_, fun H' e => ⟨.int _ (by decide), by decide +kernel, _, .int _, by decide +kernel⟩⟩
    | 2, hv => by cases hv; exact ⟨_, fun H' e => ⟨.non, by decide +kernel, none, .no (.base .non) (by decide +kernel), rfl⟩⟩
    | 3, hv => by cases hv; exact ⟨_, fun H' e => ⟨.bl _, by decide +kernel, none, .bl _, rfl⟩⟩
    | 4, hv => by cases hv; exact ⟨_, fun H' e => ⟨.str _ ⟨by decide +kernel, fun c hc => of_decide_eq_true (List.all_eq_true.mp (by decide +kernel : (("3" : PySem.Str).cps.toList.all fun c => decide (c < 16 ^ 8)) = true) c hc)⟩, by decide +kernel, none, .no (.base (.str _)) (by decide +kernel), rfl⟩⟩
    | 5, hv => by cases hv; exact ⟨_, fun H' e => ⟨.int _ (by decide +kernel), by decide +kernel, _, .int _, by decide +kernel⟩⟩
    | 6, hv => by cases hv; exact ⟨_, fun H' e => ⟨.tup e, by decide +kernel, none, .no (.base (.tup e)) (by decide +kernel), rfl⟩⟩
    | j + 7, hv => by simp at hv
  clear hv
  refine ⟨_, rfl, (by show 1 ≤ sizeLine; rw [sizeLine_eq]; omega), fun g0 mg0 => ?_⟩
  refine ⟨(by show 1 ≤ sizeLine; rw [sizeLine_eq]; omega), fun g1 mg1 => ?_⟩
  refine ⟨(by show 2 ≤ sizeLine; rw [sizeLine_eq]; omega), fun g2 mg2 => ?_⟩
  refine ⟨(by show 2 ≤ sizeLine; rw [sizeLine_eq]; omega), fun g3 mg3 => ?_⟩
  refine fun g4 mg4 => ?_
  refine ⟨(by show 0 ≤ sizeLine; rw [sizeLine_eq]; omega), fun g5 mg5 => ?_⟩
  refine ⟨(by show 2 ≤ sizeLine; rw [sizeLine_eq]; omega), fun g6 mg6 => ?_⟩
  refine fun g7 mg7 => ?_
  refine ⟨(by show 2 ≤ sizeLine; rw [sizeLine_eq]; omega), fun g8 mg8 => ?_⟩
  refine ⟨(by show 10 ≤ sizeLine; rw [sizeLine_eq]; omega), fun g9 mg9 => ?_⟩
  have d0 := sn (o := .lst [.str "a"]) mg0
  have d1 := sn (o := .tup [.str "A"]) mg1
  have d2 := sn (o := .tup [.str "a", .non]) mg2
  have d3 := sn (o := .tup [.str "a", .str ""]) mg3
  have d4 := sn (o := .dK []) mg4
  have d5 := sn (o := .lst []) mg5
  have d6 := sn (o := .tup [.str "a", .ref g5]) mg6
  have d7 := sn (o := .dK []) mg7
  have d8 := sn (o := .tup [.ref g7, .str "a"]) mg8
  have d9 := sn (o := .lst [.non, .str "a", .ref g0, .ref g1, .ref g2, .ref g3, .ref g4, .int 0, .ref g6, .ref g8]) mg9
  have zz9 : Same _ _ := d9
  have zz8 := d8.trans zz9
  have zz7 := d7.trans zz8
  have zz6 := d6.trans zz7
  have zz5 := d5.trans zz6
  have zz4 := d4.trans zz5
  have zz3 := d3.trans zz4
  have zz2 := d2.trans zz3
  have zz1 := d1.trans zz2
  have zz0 := d0.trans zz1
  have ee0 := zz1 _ _ (upd_same (a := g0))
  have ee1 := zz2 _ _ (upd_same (a := g1))
  have ee2 := zz3 _ _ (upd_same (a := g2))
  have ee3 := zz4 _ _ (upd_same (a := g3))
  have ee4 := zz5 _ _ (upd_same (a := g4))
  have ee5 := zz6 _ _ (upd_same (a := g5))
  have ee6 := zz7 _ _ (upd_same (a := g6))
  have ee7 := zz8 _ _ (upd_same (a := g7))
  have ee8 := zz9 _ _ (upd_same (a := g8))
  have dz := D1.same zz0
  refine ⟨p, g9, x1, y, z1, _, rfl, dz, ne_of_none ((d0.trans (d1.trans (d2.trans (d3.trans (d4.trans (d5.trans (d6.trans (d7.trans d8)))))))) _ _ D1.at_) mg9, upd_same, (by show 0 < 10; decide), (by show 10 < 1000; decide), fun j u x2 z2 H2 hu D2 _ hk2 => ?_⟩
  have f0 := hk2 _ _ (ne_of ee0 dz.at_ (by intro z; cases z)) ee0
  have f1 := hk2 _ _ (ne_of ee1 dz.at_ (by intro z; cases z)) ee1
  have f2 := hk2 _ _ (ne_of ee2 dz.at_ (by intro z; cases z)) ee2
  have f3 := hk2 _ _ (ne_of ee3 dz.at_ (by intro z; cases z)) ee3
  have f4 := hk2 _ _ (ne_of ee4 dz.at_ (by intro z; cases z)) ee4
  have f5 := hk2 _ _ (ne_of ee5 dz.at_ (by intro z; cases z)) ee5
  have f6 := hk2 _ _ (ne_of ee6 dz.at_ (by intro z; cases z)) ee6
  have f7 := hk2 _ _ (ne_of ee7 dz.at_ (by intro z; cases z)) ee7
  have f8 := hk2 _ _ (ne_of ee8 dz.at_ (by intro z; cases z)) ee8
  have T2 : Tabs [(P0, qL)] H2 := tabs_but dz (T1.ext zz0) hk2
  have b2 : Bp p H H2 := (b1.ext (ext_of zz0)).but hk2
  have wb : Wo K H2 u none := match j, hu with
    | 0, hu => by cases hu; exact wo_no (.base .non) (by decide +kernel)
    | 1, hu => by cases hu; exact wo_no (.base (.str _)) (by decide +kernel)
    | 2, hu => by cases hu; exact wo_no (.base (.lst f0)) (by decide +kernel)
    | 3, hu => by cases hu; exact wo_tup f1 (os := [some "A"]) (.cons (.str _ (by decide +kernel)) .nil) (by show 1 ≤ 1000; decide) (by decide +kernel)
    | 4, hu => by cases hu; exact wo_tup f2 (os := [some "a", none]) (.cons (.str _ (by decide +kernel)) (.cons (.no (.base .non) (by decide +kernel)) .nil)) (by show 2 ≤ 1000; decide) (by decide +kernel)
    | 5, hu => by cases hu; exact wo_tup f3 (os := [some "a", some ""]) (.cons (.str _ (by decide +kernel)) (.cons (.str _ (by decide +kernel)) .nil)) (by show 2 ≤ 1000; decide) (by decide +kernel)
    | 6, hu => by cases hu; exact wo_no (.base (.dK f4)) (by decide +kernel)
    | 7, hu => by cases hu; exact wo_no (.base (.int _)) (by decide +kernel)
    | 8, hu => by cases hu; exact wo_tup f6 (os := [some "a", none]) (.cons (.str _ (by decide +kernel)) (.cons (.no (.base (.lst f5)) (by decide +kernel)) .nil)) (by show 2 ≤ 1000; decide) (by decide +kernel)
    | 9, hu => by cases hu; exact wo_tup f8 (os := [none, some "a"]) (.cons (.no (.base (.dK f7)) (by decide +kernel)) (.cons (.str _ (by decide +kernel)) .nil)) (by show 2 ≤ 1000; decide) (by decide +kernel)
    | j + 10, hu => by simp at hu
  have et2 : H2 t = some (.tup []) := hk2 _ _ pt.symm (zz0 _ _ et1)
  have o2 := hodd H2 et2
  clear hu
  have sok : SeqAt.shaped (.list [.str ("number " ++ dt.shown), .str ("number " ++ dt.shown), .str "name"]) = true := by
    have e1 := o2.2.1
    have e2 : PyData.strOk ("name" : PySem.Str) = true := by decide +kernel
    unfold SeqAt.shaped
    rw [Bool.and_eq_true]
    refine ⟨?_, decide_eq_true (by simp [PyData.depth, PyData.depthAll])⟩
    show (PyData.strOk _ && (PyData.strOk _ && (PyData.strOk _ && true))) = true
    rw [e1, e2] <;> rfl
  refine ⟨T2, fun H3 q3 T3 => ?_⟩
  have bb3 := b2.ext q3
  have dd3 := dice_ext D2 q3
  have wb3 := wo_ext wb q3
  have o3 := odd_ext o2 q3
  clear o2 wb b2 b1 T1 T2
  obtain ⟨w1, w2, oi, w3, w4⟩ := id o3
  refine ⟨_, rfl, v, .ref e0, oi, some [], rfl, w3, hE H3, fun _ d H4 s4 ed => .inr ⟨rfl, d, v, dt, rfl, ed, w1.same s4, ?_⟩, fun hf => absurd (hf.symm.trans w4) (by simp), fun m bar e hm => absurd ((few_nat hm).symm.trans ((congrArg few e).symm.trans w4)) (by simp)⟩
  refine ⟨(by show 1 ≤ sizeLine; decide), fun l5 n5 => ?_⟩
  have s5 := s4.trans (sn (o := .lst [.str ("number " ++ dt.shown)]) n5)
  refine ⟨_, rfl, .inl ⟨rfl, _, SqL.of upd_same⟩, T3.ext s5, fun H6 q6 T6 => ?_⟩
  have x6 : ExtN H3 H6 := (ext_of s5).trans q6
  have el6 : H6 l5 = some (.lst [.str ("number " ++ dt.shown)]) := ext_at q6 upd_same
  refine ⟨_, rfl, _, rfl, rfl, rfl, v, u, oi, none, rfl, iv_ext w3 x6, wo_ext wb3 x6, fun _ d2 H7 s7 ed2 => .inr ⟨rfl, d2, v, dt, rfl, ed2, od_ext w1 (x6.trans (ext_of s7)), ?_⟩, fun hf => absurd (hf.symm.trans w4) (by simp), fun m bar e hm => absurd ((few_nat hm).symm.trans ((congrArg few e).symm.trans w4)) (by simp)⟩
  refine ⟨l5, _, _, rfl, rfl, s7 _ _ el6, (by show 1 < sizeLine; decide), ?_⟩
  have x7 := x6.trans (ext_of s7)
  have T7 := T6.ext s7
  have n35 : H3 l5 = none := s4.free n5
  have x8 : ExtN H3 (upd H7 l5 (.lst ([.str ("number " ++ dt.shown)] ++ [.str ("number " ++ dt.shown)]))) := ext_upd x7 n35
  refine ⟨_, rfl, .inl ⟨rfl, _, SqL.of upd_same⟩, tabs_upd T7 (s7 _ _ el6), fun H9 q9 T9 => ?_⟩
  have x9 := x8.trans q9
  have el9 : H9 l5 = some (.lst ([.str ("number " ++ dt.shown)] ++ [.str ("number " ++ dt.shown)])) := ext_at q9 upd_same
  refine ⟨_, rfl, rfl, rfl, .int 3, u, some 3, none, rfl, .int 3, wo_ext wb3 x9, fun hf => absurd hf (by decide +kernel), fun _ _ H10 s10 => .inl ⟨rfl, ?_⟩, fun m bar _ _ e => nomatch e⟩
  refine ⟨l5, _, _, rfl, rfl, s10 _ _ el9, (by show 2 < sizeLine; decide), ?_⟩
  have x10 : ExtN H3 (upd H10 l5 (.lst ([.str ("number " ++ dt.shown)] ++ [.str ("number " ++ dt.shown)] ++ [.str "name"]))) := ext_upd (x9.trans (ext_of s10)) n35
  have T10 := tabs_upd (ys := [.str ("number " ++ dt.shown)] ++ [.str ("number " ++ dt.shown)] ++ [.str "name"]) (T9.ext s10) (s10 _ _ el9)
  have el10 : (upd H10 l5 (.lst ([.str ("number " ++ dt.shown)] ++ [.str ("number " ++ dt.shown)] ++ [.str "name"]))) l5 = some (.lst ([.str ("number " ++ dt.shown)] ++ [.str ("number " ++ dt.shown)] ++ [.str "name"])) := upd_same
  generalize upd H10 l5 (.lst ([.str ("number " ++ dt.shown)] ++ [.str ("number " ++ dt.shown)] ++ [.str "name"])) = Hz at x10 T10 el10 ⊢
  refine ⟨_, rfl, _, rfl, v, dt, rfl, od_ext w1 x10, _, _, rfl, rfl, (by have := w1.short; rw [num_len, sizeLine_eq]; omega), (by show 1 ≤ sizeLine; decide), fun a1 m1 => ?_⟩
  refine ⟨a1, 2, _, rfl, rfl, upd_same, (by decide), (by decide), (by show 1 * 2 ≤ sizeLine; decide), fun a2 m2 => ?_⟩
  refine ⟨(by show 1 ≤ sizeLine; decide), fun a3 m3 => ?_⟩
  refine ⟨a2, a3, _, _, rfl, rfl, sn m3 _ _ upd_same, upd_same, (by show 3 ≤ sizeLine; decide), fun a4 m4 => ?_⟩
  have cz := ((sn (o := .lst [.str ("number " ++ dt.shown)]) m1).trans (sn (o := .lst (List.replicate (2 : Int).toNat [.str ("number " ++ dt.shown)]).flatten) m2)).trans ((sn (o := .lst [.str "name"]) m3).trans (sn (o := .lst ((List.replicate (2 : Int).toNat [.str ("number " ++ dt.shown)]).flatten ++ [.str "name"])) m4))
  refine ⟨.list [.str ("number " ++ dt.shown), .str ("number " ++ dt.shown), .str "name"], .list [.str ("number " ++ dt.shown), .str ("number " ++ dt.shown), .str "name"], .lst (SqL.of (cz _ _ el10)) (.cons (.str _) (.cons (.str _) (.cons (.str _) .nil))), .lst (SqL.of upd_same) (.cons (.str _) (.cons (.str _) (.cons (.str _) .nil))), sok, sok, ?_⟩
  rw [SeqAt.eqv_refl _ (SeqAt.canLay_of_shaped sok)]
  exact k x2 z2 _ ((dice_ext dd3 x10).same cz) (T10.ext cz) ((bb3.ext x10).ext (ext_of cz))
end
end K1
/-! A turn of the law. -/
namespace K1
open PySem PySem.Spec PyProof.Rows L2 K0 LamX

theorem Bp.trans {p : Addr} {H H1 H2 : Hp} (a : Bp p H H1) (b : Bp p H1 H2) : Bp p H H2 := fun c o hc n e => b c o hc n (a c o hc n e)
theorem one_nm {c : Nat} (h : c ∈ alpha.cps.toList) : nm (⟨#[c]⟩ : PySem.Str) = true := by
  have z := alpha_has c
  have h2 : alpha.cps.contains c = true := by rw [Array.contains_iff_mem]; exact Array.mem_toList_iff.mp h
  rw [h2] at z
  show (decide (1 ≤ 1) && (decide (1 ≤ 8) && [c].all low)) = true
  simp [← z]
theorem due_ok (bar : List PySem.Str) (m : Nat) : ∀ x ∈ due bar m, PyData.strOk x = true := fun x hx => by
  have h1 := List.mem_of_mem_take hx
  have h2 := (List.mem_filter.mp h1).1
  obtain ⟨k, hk, rfl⟩ := List.mem_map.mp h2
  have z : ((List.range 702).all fun k => PyData.strOk (nmS k)) = true := by decide +kernel
  exact List.all_eq_true.mp z k hk
theorem dps_strs {K : PySem.W.Frag} {H : Hp} : ∀ ls : List PySem.Str, DpAll K H (ls.map V.str) (ls.map PyData.str)
  | [] => .nil
  | x :: r => .cons (.str x) (dps_strs r)
theorem strs_lay : ∀ {ls : List PySem.Str}, (∀ x ∈ ls, PyData.strOk x = true) → PyData.canLayAll0 (ls.map PyData.str) = true ∧ PyData.depthAll (ls.map PyData.str) = 0
  | [], _ => ⟨rfl, rfl⟩
  | x :: r, h => by
    obtain ⟨h1, h2⟩ := strs_lay (ls := r) fun y hy => h y (by simp [hy])
    refine ⟨?_, ?_⟩
    · show (PyData.strOk x && PyData.canLayAll0 (r.map PyData.str)) = true
      rw [h x (by simp), h1] <;> rfl
    · show max (PyData.depth (.str x)) (PyData.depthAll (r.map PyData.str)) = 0
      rw [h2] <;> rfl
theorem strs_shaped {ls : List PySem.Str} (h : ∀ x ∈ ls, PyData.strOk x = true) : SeqAt.shaped (.tuple (ls.map PyData.str)) = true := by
  obtain ⟨h1, h2⟩ := strs_lay h
  unfold SeqAt.shaped
  rw [Bool.and_eq_true]
  refine ⟨h1, decide_eq_true ?_⟩
  show PyData.depthAll _ + 1 ≤ 64
  rw [h2]; decide
def spRight (P0 : Addr) : Sp := fun vs H Q _ => ∃ (p : Addr) (x y z : Int), vs = [.ref p] ∧ Dice H p x y z ∧ Tabs [(P0, qL)] H ∧
  ∀ (x' z' : Int) (H' : Hp), Dice H' p x' y z' → Tabs [(P0, qL)] H' → Bp p H H' → Q (.bl true) H'
section
variable {P : Program} {w : World} {K : PySem.W.Frag} {mg : PySem.Str → Option Value} {base : Heap}
theorem ok_right {f c P0 CN CI e0 : Addr} {fN fE fL hN hE hL fO gT fV fU fP fW fF : Addr} {fd fdN fdE fdL hdN hdE hdL fdO fdT fdV fdU fdP fdW fdF : FuncData} {ds : List Value} (F : Fun K "_law_right" "_law_right" sRight f fd) (hc : fd.code = .ref c)
    (T : Bare mg) (Z : Two K CN CI) (TB : TabB base mg c P0) (mN : mg "InvalidName" = some (.ref CN)) (mI : mg "InvalidNumber" = some (.ref CI))
    (FN : Fun K "is_name" "is_name" sIsName fN fdN) (bN : Binds K fdN ["value"] []) (mNm : mg "is_name" = some (.ref fN)) (GN : FnOk P w K mg base CX0 1 fN fdN ["value"] (spIsName K))
    (FE : Fun K "is_event" "is_event" sIsEvent fE fdE) (bE : Binds K fdE ["value"] []) (mE : mg "is_event" = some (.ref fE)) (GE : FnOk P w K mg base CX0 3 fE fdE ["value"] (spIsEvent K))
    (FL : Fun K "is_letter" "is_letter" sIsLetter fL fdL) (bL : Binds K fdL ["value"] []) (mL : mg "is_letter" = some (.ref fL)) (GL : FnOk P w K mg base CX0 3 fL fdL ["value"] (spIsLetter K))
    (FHN : Fun K "_law_is_name" "_law_is_name" sLName hN hdN) (bHN : Binds K hdN ["_law_value"] []) (mHN : mg "_law_is_name" = some (.ref hN)) (HN : FnOk P w K mg base CX0 1 hN hdN ["_law_value"] (spIsName K))
    (FHE : Fun K "_law_is_event" "_law_is_event" sLEvent hE hdE) (bHE : Binds K hdE ["_law_value"] []) (mHE : mg "_law_is_event" = some (.ref hE)) (HE : FnOk P w K mg base CX0 3 hE hdE ["_law_value"] (spIsEvent K))
    (FHL : Fun K "_law_is_letter" "_law_is_letter" sLLetter hL hdL) (bHL : Binds K hdL ["_law_value"] []) (mHL : mg "_law_is_letter" = some (.ref hL)) (HL : FnOk P w K mg base CX0 3 hL hdL ["_law_value"] (spIsLetter K))
    (FO : Fun K "other_event" "other_event" sOther fO fdO) (bO : Binds K fdO ["event"] []) (mO : mg "other_event" = some (.ref fO)) (GO : FnOk P w K mg base (L2.CX P w) 4 fO fdO ["event"] (spOther K CN))
    (FTold : Fun K "_law_told" "_law_told" sTold gT fdT) (bTold : Binds K fdT ["_law_call"] []) (mTold : mg "_law_told" = some (.ref gT))
    (FV : Fun K "_law_values" "_law_values" sValues fV fdV) (bV : Binds K fdV ["_law_dice_here"] []) (mV : mg "_law_values" = some (.ref fV)) (GV : FnOk P w K mg base CX0 4 fV fdV ["_law_dice_here"] (spValues K))
    (FU : Fun K "_law_pull" "_law_pull" sPull fU fdU) (bU : Binds K fdU ["_law_dice_here", "_law_total"] []) (mU : mg "_law_pull" = some (.ref fU)) (GU : FnOk P w K mg base CX0 1 fU fdU ["_law_dice_here", "_law_total"] spPull)
    (FP : Fun K "_law_pick" "_law_pick" sPick fP fdP) (bP : Binds K fdP ["_law_dice_here", "_law_items"] []) (mP : mg "_law_pick" = some (.ref fP)) (GP : FnOk P w K mg base CX0 2 fP fdP ["_law_dice_here", "_law_items"] spPick) (GS : FnOk P w K mg base CX0 2 fP fdP ["_law_dice_here", "_law_items"] spPickS)
    (mW : mg "new_names" = some (.ref fW)) (kW : PySem.W.keepIn K (.ref fW) = true) (bW : Binds K fdW ["many", "without"] ds) (vW : Vals [V.ref e0] ds) (KB : KBn K fdW ["many", "without"] 1 ["without"] (fun us ws => us ++ ws) (fun vs zs => vs ++ zs))
    (GW : FnOk P w K mg base (L2.CX P w) 3 fW fdW ["many", "without"] (spNew K CN CI)) (hEm : ∀ H : Hp, Wo K H (.ref e0) (some []))
    (FF : Fun K "_law_first_names" "_law_first_names" sFirst fF fdF) (bF : Binds K fdF ["_law_total", "_law_barred"] []) (mF : mg "_law_first_names" = some (.ref fF)) (GF : FnOk P w K mg base CX0 2 fF fdF ["_law_total", "_law_barred"] (spFirst K)) : FnG P w K mg base 7 f fd ["_law_dice_here"] (spRight P0) := by
  refine fng_ofC F hc scRight (fun vs H Q E h => ?_) (fun A outer s H vs Q E hgd hr h => ?_)
  · obtain ⟨p, x, y, z, rfl, _⟩ := h
    rfl
  · obtain ⟨p, x, y, z, rfl, D0, hT, k⟩ := h
    refine ⟨_, pss_cons (ps_for PassesOwn.never rfl (pi_list (pe_call GV (hr.mono (by decide)) (by rfl) mV FV.kp bV .nil pass0 (pa_cons (pv 0) pa_nil))) (pg_name (i := 1) scRight.nd rfl (Or.inr rfl)) (value_turn (P := P) (w := w) (base := base) (g := gT) hgd hr T Z TB mN mI FN bN mNm GN FE bE mE GE FL bL mL GL FHN bHN mHN HN FHE bHE mHE HE FHL bHL mHL HL FO bO mO GO FTold bTold mTold))
      (pss_cons (ps_setLc (i := 4) (own := [("_law_turn", 5)]) (g := gName 5) (tt := tYes) rfl scRight.nd rfl rfl (sw_true rfl rfl rfl (by decide +kernel)) (pi_range1 (by rfl) T.rng (pa_cons (pe_call GU (hr.mono (by decide)) (by rfl) mU FU.kp bU .nil pass0 (pa_cons (pv 0) (pa_cons pe_int pa_nil))) pa_nil)) (blkOk_by (own := [("_law_turn", 5)]) (N := nRight) (sc := defScope sRight) (by decide +kernel)) (fun _ _ _ _ _ => pg_name (i := 5) scRight.nd rfl (Or.inl rfl)) (fun _ _ _ _ _ => pts_nil) (fun _ _ _ _ _ => (pe_call GS (hr.mono (by decide)) (by rfl) mP FP.kp bP .nil pass0 (pa_cons (pv 0) (pa_cons pe_str pa_nil)))))
      (pss_cons (ps_setLc (i := 6) (own := [("_law_turn", 5)]) (g := gName 5) (tt := tYes) rfl scRight.nd rfl rfl (sw_true rfl rfl rfl (by decide +kernel)) (pi_range1 (by rfl) T.rng (pa_cons (pe_call GU (hr.mono (by decide)) (by rfl) mU FU.kp bU .nil pass0 (pa_cons (pv 0) (pa_cons pe_int pa_nil))) pa_nil)) (blkOk_by (own := [("_law_turn", 5)]) (N := nRight) (sc := defScope sRight) (by decide +kernel)) (fun _ _ _ _ _ => pg_name (i := 5) scRight.nd rfl (Or.inl rfl)) (fun _ _ _ _ _ => pts_nil) (fun _ _ _ _ _ => (pe_call GP (hr.mono (by decide)) (by rfl) mP FP.kp bP .nil pass0 (pa_cons (pv 0) (pa_cons (pe_lst (pa_cons pe_str (pa_cons pe_str (pa_cons pe_str (pa_cons pe_str (pa_cons pe_str (pa_cons pe_str pa_nil))))))) pa_nil)))))
      (pss_cons (ps_par (i := 7) (j := 8) rfl scRight.nd rfl rfl (by decide) rfl rfl (pa_cons (pe_call GP (hr.mono (by decide)) (by rfl) mP FP.kp bP .nil pass0 (pa_cons (pv 0) (pa_cons (pe_lst (pa_cons pe_int (pa_cons pe_int (pa_cons pe_int (pa_cons pe_int (pa_cons pe_int (pa_cons pe_int (pa_cons (pe_call GU (hr.mono (by decide)) (by rfl) mU FU.kp bU .nil pass0 (pa_cons (pv 0) (pa_cons pe_int pa_nil))) pa_nil)))))))) pa_nil))) (pa_cons (pe_callTy call_tuple_of (by rfl) T.tup (by decide +kernel) (pa_cons (pe_op op_cat (pv 4) (pv 6)) pa_nil)) pa_nil)) (by rfl))
      (pss_cons (ps_if (pt_cmpR (op_neD hr.units) (pe_callN GW (hr.mono (by decide)) (by rfl) mW kW KB passL (pa_cons (pv 7) pa_nil) (pk_cons (pv 8) pk_nil)) (pe_call GF (hr.mono (by decide)) (by rfl) mF FF.kp bF .nil pass0 (pa_cons (pv 7) (pa_cons (pv 8) pa_nil))) (nomark _)) (pss_one (ps_ret pe_bl)) pss_nil)
      (end_turn (P := P) (w := w) (base := base) (g := gT) hgd hr T Z TB mN mI FP bP mP GP mW kW bW vW KB GW hEm FTold bTold mTold))))), ?_⟩
    refine ⟨_, rfl, p, x, y, z, rfl, D0, fun q xs x1 z1 H1 hq hG hlen D1 hk1 => ⟨q, rfl, ⟨_, SqL.of hq⟩, ?_⟩⟩
    have T1 := tabs_but D0 hT hk1
    refine for_list (K := K) (a := q) (xs := xs) (fun i σ H' => ∃ l1 l2 l3, σ = [some (.ref p), l1, l2, l3, none, none, none, none, none, none, none] ∧ ExtN H1 H' ∧ Tabs [(P0, qL)] H') ⟨none, none, none, rfl, ExtN.refl _, T1⟩ (fun i σ H' _ ⟨_, _, _, _, e, _⟩ => sqL_ext (SqL.of hq) e)
      (fun i v σ H' hv ⟨l1, l2, l3, es, e, T'⟩ => ?_) (fun σ H2 ⟨l1, l2, l3, es, e, T2⟩ => ?_)
    · subst es
      exact ⟨p, v, l2, l3, _, rfl, T', gv_ext (hG v (List.mem_of_getElem? hv)) e, fun u1 u2 H'' e2 T'' => ⟨some v, some u1, some u2, rfl, e.trans e2, T''⟩⟩
    subst es
    have D2 := dice_ext D1 e
    have b2 : Bp p H H2 := ((Bp.refl p H).but hk1).ext e
    refine ⟨_, rfl, p, x1, y, z1, 9, rfl, D2, by decide, by decide, fun r x3 z3 H3 r0 r1 D3 _ hk3 => ?_⟩
    have T3 := tabs_but D2 T2 hk3
    have b3 := b2.but hk3
    obtain ⟨n, rfl⟩ : ∃ n : Nat, r = (n : Int) := ⟨r.toNat, by omega⟩
    refine ⟨(n : Int), rfl, by omega, by omega, fun B nB => ?_⟩
    have pB : p ≠ B := ne_of_none D3.at_ nB
    refine lc_range (lo := 0) (n := n) (fun i H' => ∃ (ws : List PySem.Str) (x z : Int), H' B = some (.lst (ws.map V.str)) ∧ ws.length = i ∧ (∀ s ∈ ws, nm s = true) ∧ Dice H' p x y z ∧ ∀ b o, b ≠ p → H3 b = some o → H' b = some o)
      ⟨[], x3, z3, upd_same, rfl, (by simp), D3.upd nB, fun b o _ eb => sn nB _ _ eb⟩ (fun i H' hi ⟨ws, x4, z4, hw, hwl, hwn, D4, hk4⟩ => ⟨rfl, ?_⟩) (fun H4 ⟨w1, x4, z4, hB, hl1, hn1, D4, hk4⟩ => ?_)
    · refine ⟨_, rfl, p, x4, y, z4, alpha, rfl, D4, (by rw [alpha_len]; decide), (by rw [alpha_len]; decide), fun ch x5 z5 H5 hch D5 _ hk5 => ?_⟩
      refine ⟨_, hk5 B _ pB.symm hw, (by rw [List.length_map, hwl, sizeLine_eq]; omega), ws ++ [⟨#[ch]⟩], x5, z5, (by rw [upd_same, List.map_append] <;> rfl), (by rw [List.length_append, hwl] <;> rfl), ?_, ⟨by rw [upd_ne pB] <;> exact D5.at_, D5.x0, D5.x1, D5.y0, D5.y1, D5.z0⟩, fun b o hb eb => ?_⟩
      · intro s hs
        rcases List.mem_append.mp hs with h1 | h1
        · exact hwn s h1
        · rw [List.mem_singleton.mp h1]
          exact one_nm hch
      · rw [upd_ne (ne_of_none eb nB)]
        exact hk5 b o hb (hk4 b o hb eb)
    have T4 := tabs_but D3 T3 hk4
    have b4 := b3.but hk4
    refine ⟨_, rfl, p, x4, y, z4, 3, rfl, D4, by decide, by decide, fun r5 x5 z5 H5 r50 r51 D5 _ hk5 => ?_⟩
    have T5 := tabs_but D4 T4 hk5
    have b5 := b4.but hk5
    have hB5 := hk5 B _ pB.symm hB
    obtain ⟨n5, rfl⟩ : ∃ n : Nat, r5 = (n : Int) := ⟨r5.toNat, by omega⟩
    refine ⟨(n5 : Int), rfl, by omega, by omega, fun M nM => ?_⟩
    have pM : p ≠ M := ne_of_none D5.at_ nM
    have hBM : B ≠ M := ne_of_none hB5 nM
    refine lc_range (lo := 0) (n := n5) (fun i H' => ∃ (ws : List PySem.Str) (x z : Int), H' M = some (.lst (ws.map V.str)) ∧ ws.length = i ∧ (∀ s ∈ ws, nm s = true) ∧ Dice H' p x y z ∧ ∀ b o, b ≠ p → H5 b = some o → H' b = some o)
      ⟨[], x5, z5, upd_same, rfl, (by simp), D5.upd nM, fun b o _ eb => sn nM _ _ eb⟩ (fun i H' hi ⟨ws, x6, z6, hw, hwl, hwn, D6, hk6⟩ => ⟨rfl, ?_⟩) (fun H6 ⟨w2, x6, z6, hM6, hl2, hn2, D6, hk6⟩ => ?_)
    · refine ⟨_, rfl, (by show 6 ≤ sizeLine; decide), fun l nl => ?_⟩
      have pl : p ≠ l := ne_of_none D6.at_ nl
      have Ml : M ≠ l := ne_of_none hw nl
      refine ⟨p, l, x6, y, z6, _, rfl, D6.upd nl, pl, upd_same, (by show 0 < 6; decide), (by show 6 < 1000; decide), fun j v x7 z7 H7 hv D7 _ hk7 => ?_⟩
      obtain ⟨s, rfl, hs⟩ : ∃ s : PySem.Str, v = .str s ∧ nm s = true := match j, hv with
        | 0, hv => by cases hv; exact ⟨_, rfl, by decide +kernel⟩
        | 1, hv => by cases hv; exact ⟨_, rfl, by decide +kernel⟩
        | 2, hv => by cases hv; exact ⟨_, rfl, by decide +kernel⟩
        | 3, hv => by cases hv; exact ⟨_, rfl, by decide +kernel⟩
        | 4, hv => by cases hv; exact ⟨_, rfl, by decide +kernel⟩
        | 5, hv => by cases hv; exact ⟨_, rfl, by decide +kernel⟩
        | j + 6, hv => by simp at hv
      refine ⟨_, hk7 M _ pM.symm (sn nl _ _ hw), (by rw [List.length_map, hwl, sizeLine_eq]; omega), ws ++ [s], x7, z7, (by rw [upd_same, List.map_append] <;> rfl), (by rw [List.length_append, hwl] <;> rfl), ?_, ⟨by rw [upd_ne pM] <;> exact D7.at_, D7.x0, D7.x1, D7.y0, D7.y1, D7.z0⟩, fun b o hb eb => ?_⟩
      · intro u hu
        rcases List.mem_append.mp hu with h1 | h1
        · exact hwn u h1
        · rw [List.mem_singleton.mp h1]
          exact hs
      · rw [upd_ne (ne_of_none eb nM)]
        exact hk7 b o hb (sn nl _ _ (hk6 b o hb eb))
    have T6 := tabs_but D5 T5 hk6
    have b6 := b5.but hk6
    have hB6 := hk6 B _ pB.symm hB5
    -- the number and the names that are barred
    refine ⟨_, rfl, _, rfl, p, x6, y, z6, 90, rfl, D6, by decide, by decide, fun r7 x7 z7 H7 r70 r71 D7 _ hk7 => ?_⟩
    have T7 := tabs_but D6 T6 hk7
    have b7 := b6.but hk7
    refine ⟨(by show 7 ≤ sizeLine; decide), fun l7 nl7 => ?_⟩
    have pl7 : p ≠ l7 := ne_of_none D7.at_ nl7
    refine ⟨p, l7, x7, y, z7, _, rfl, D7.upd nl7, pl7, upd_same, (by show 0 < 7; decide), (by show 7 < 1000; decide), fun j v x8 z8 H8 hv D8 _ hk8 => ?_⟩
    have T8 := tabs_but (D7.upd nl7) (T7.ext (sn nl7)) hk8
    have b8 := (b7.ext (ext_of (sn nl7))).but hk8
    obtain ⟨m, rfl, hm⟩ : ∃ m : Nat, v = .int (m : Int) ∧ m ≤ 500 := match j, hv with
      | 0, hv => by cases hv; exact ⟨0, rfl, by decide⟩
      | 1, hv => by cases hv; exact ⟨1, rfl, by decide⟩
      | 2, hv => by cases hv; exact ⟨5, rfl, by decide⟩
      | 3, hv => by cases hv; exact ⟨26, rfl, by decide⟩
      | 4, hv => by cases hv; exact ⟨40, rfl, by decide⟩
      | 5, hv => by cases hv; exact ⟨500, rfl, by decide⟩
      | 6, hv => by cases hv; exact ⟨r7.toNat, by rw [Int.toNat_of_nonneg r70], by omega⟩
      | j + 7, hv => by simp at hv
    clear hv
    have hB8 := hk8 B _ pB.symm (sn nl7 _ _ (hk7 B _ pB.symm hB6))
    have hM8 := hk8 M _ pM.symm (sn nl7 _ _ (hk7 M _ pM.symm hM6))
    refine ⟨_, rfl, _, rfl, B, M, _, _, rfl, rfl, hB8, hM8, (by rw [List.length_map, List.length_map, sizeLine_eq]; omega), fun l8 nl8 => ?_⟩
    refine ⟨l8, _, rfl, .inl ⟨SqL.of upd_same, fun t8 nt8 => ?_⟩⟩
    have c9 := (sn (o := .lst (w1.map V.str ++ w2.map V.str)) nl8).trans (sn (o := .tup (w1.map V.str ++ w2.map V.str)) nt8)
    have ht : (upd (upd H8 l8 (.lst (w1.map V.str ++ w2.map V.str))) t8 (.tup (w1.map V.str ++ w2.map V.str))) t8 = some (.tup ((w1 ++ w2).map V.str)) := by rw [upd_same, List.map_append]
    have D9 := D8.same c9
    have T9 := T8.ext c9
    have b9 := b8.ext (ext_of c9)
    have hnm : ∀ s ∈ w1 ++ w2, nm s = true := fun s hs => by
      rcases List.mem_append.mp hs with h1 | h1
      · exact hn1 s h1
      · exact hn2 s h1
    have hbl : (w1 ++ w2).length ≤ 200 := by rw [List.length_append]; omega
    refine ⟨_, _, rfl, ?_⟩
    refine ⟨_, rfl, _, rfl, rfl, rfl, .int (m : Int), .ref t8, some (m : Int), some (w1 ++ w2), rfl, .int _, .yes (.tup (SqT.of ht) (.base (.tup ht))) hnm hbl, fun hf => absurd ((few_nat hm).symm.trans hf) (by simp), fun _ e => (by cases e), fun m' bar' em hm' eb p9 H9 s9 np9 e9 => ?_⟩
    obtain rfl : m = m' := by have := Option.some.inj em; omega
    obtain rfl : w1 ++ w2 = bar' := Option.some.inj eb
    refine ⟨_, rfl, _, rfl, m, t8, w1 ++ w2, rfl, hm, sqT_same (SqT.of ht) s9, hbl, fun q9 H10 s10 nq9 e10 => ?_⟩
    have sh := strs_shaped (due_ok (w1 ++ w2) m)
    refine ⟨_, _, .tup (SqT.of (s10 _ _ e9)) (dps_strs _), .tup (SqT.of e10) (dps_strs _), sh, sh, _, rfl, ?_⟩
    refine ite2 (fun h1 => absurd h1 (by rw [SeqAt.eqv_refl _ (SeqAt.canLay_of_shaped sh)] <;> simp)) (fun _ => ?_)
    have c10 := s9.trans s10
    exact ⟨p, x8, y, z8, _, _, _, _, _, _, _, _, _, _, rfl, T9.ext c10, D9.same c10, fun x' z' H' D' T' b' => k x' z' H' D' T' ((b9.ext (ext_of c10)).trans b')⟩
end
end K1
/-! The law. -/
namespace K1
open PySem PySem.Spec PyProof.Rows L2 K0 LamX

abbrev sLaw : Stmt := top 32
def spLaw (K : PySem.W.Frag) (P0 : Addr) : Sp := fun vs H Q _ => ∃ (a : Addr) (ns : List Int), vs = [.ref a] ∧ SqL K H a (ns.map V.int) ∧ ns.length ≤ 63 ∧ Tabs [(P0, qL)] H ∧ ∀ H', Q (.bl true) H'
theorem due_none : due [] 0 = [] := rfl
theorem due_ac : due ["a", "c"] 2 = (["b", "d"] : List PySem.Str) := by decide +kernel
theorem due_28 : (due [] 28).length = 28 ∧ (due [] 28).drop 25 = (["z", "aa", "ab"] : List PySem.Str) := by decide +kernel
theorem cut_28 : cutV ((due [] 28).map V.str) (some 25) none = (["z", "aa", "ab"] : List PySem.Str).map V.str := by
  have hl : ((due [] 28).map V.str).length = 28 := by rw [List.length_map, due_28.1]
  unfold cutV
  rw [HT.sIx_none, hl]
  have e : HT.sIx 28 0 (some 25) = 25 := rfl
  rw [e, ← List.map_drop, due_28.2] <;> rfl
theorem ext_but {p : Addr} {H H0 H1 H2 : Hp} (a : ExtN H H0) (n : H0 p = none) (b : ExtN H0 H1) (c : Bp p H1 H2) : ExtN H H2 := fun d o e m => by
  have e0 := a d o e m
  exact c d o (ne_of_none e0 n) m (b d o e0 m)
section
variable {P : Program} {w : World} {K : PySem.W.Frag} {mg : PySem.Str → Option Value} {base : Heap}
theorem scLaw : FnScope ["_law_script", "_law_at", "_law_dice_here", "_law_turn"] ["_law_script"] (defScope sLaw) := ⟨rfl, rfl, rfl, by decide +kernel, rfl, by decide +kernel, by decide +kernel⟩
theorem ok_law {f fD fR fW P0 CN CI e0 : Addr} {fd fdD fdR fdW : FuncData} {ds : List Value} (F : Fun K "law" "law" sLaw f fd) (T : Bare mg)
    (FD : Fun K "_law_dice" "_law_dice" sDice fD fdD) (bD : Binds K fdD ["_law_script", "_law_at"] []) (mD : mg "_law_dice" = some (.ref fD))
    (FR : Fun K "_law_right" "_law_right" sRight fR fdR) (bR : Binds K fdR ["_law_dice_here"] []) (mR : mg "_law_right" = some (.ref fR)) (GR : FnG P w K mg base 7 fR fdR ["_law_dice_here"] (spRight P0))
    (mW : mg "new_names" = some (.ref fW)) (kW : PySem.W.keepIn K (.ref fW) = true) (bW : Binds K fdW ["many", "without"] ds) (vW : Vals [V.ref e0] ds) (KB : KBn K fdW ["many", "without"] 1 ["without"] (fun us ws => us ++ ws) (fun vs zs => vs ++ zs))
    (GW : FnOk P w K mg base (L2.CX P w) 3 fW fdW ["many", "without"] (spNew K CN CI)) (hEm : ∀ H : Hp, Wo K H (.ref e0) (some [])) : FnG P w K mg base 8 f fd ["_law_script"] (spLaw K P0) := by
  have GD := ok_dice (P := P) (w := w) (base := base) FD T
  refine fng_of F scLaw (fun vs H Q E h => ?_) (fun cdv A outer s H vs Q E hgA hr h => ?_)
  · obtain ⟨a, ns, rfl, _⟩ := h
    rfl
  · obtain ⟨a, ns, rfl, hL, hlen, hT, k⟩ := h
    have hg : (A.deeper (envOfC "law" (defScope sLaw) s.heap.objs.size f cdv)).guards = some [] := hgA
    refine ⟨_, (pss_cons (ps_for PassesOwn.never rfl (pi_range1 (by rfl) T.rng (pa_cons (pe_callB (call_max2 rfl) (by rfl) T.max (by decide +kernel) (pa_cons pe_int (pa_cons (pe_callB (call_min2 rfl) (by rfl) T.min (by decide +kernel) (pa_cons pe_int (pa_cons (pe_callB call_len_seq (by rfl) T.len PySem.boot_len (pa_cons (pv 0) pa_nil)) pa_nil))) pa_nil))) pa_nil)) (pg_name (i := 1) scLaw.nd rfl (Or.inl rfl)) (pss_cons (ps_set (i := 2) scLaw.nd rfl (Or.inl rfl) (pe_call GD (hr.mono (by decide)) (by rfl) mD FD.kp bD .nil pass0 (pa_cons (pv 0) (pa_cons (pv 1) pa_nil))))
      (pss_one (ps_for PassesOwn.never rfl (pi_range1 (by rfl) T.rng (pa_cons pe_int pa_nil)) (pg_name (i := 3) scLaw.nd rfl (Or.inl rfl)) (pss_one (ps_if (pt_not (pt_val (pe_callG GR hg hr (by rfl) mR FR.kp bR (pa_cons (pv 2) pa_nil)))) (pss_one (ps_ret pe_bl)) pss_nil))))))
      (pss_cons (ps_if (PW.pt (pw_or (pt_cmpR (op_neD hr.units) (pe_call (E := E0) GW (hr.mono (by decide)) (by rfl) mW kW bW vW passL (pa_cons pe_int pa_nil)) (pe_tup pa_nil) (nomark _)) (pw_or1 (pt_cmpR (op_neD hr.units) (pe_callN (E := E0) GW (hr.mono (by decide)) (by rfl) mW kW KB passL (pa_cons pe_int pa_nil) (pk_cons (pe_tup (pa_cons pe_str (pa_cons pe_str pa_nil))) pk_nil)) (pe_tup (pa_cons pe_str (pa_cons pe_str pa_nil))) (nomark _))))) (pss_one (ps_ret pe_bl)) pss_nil)
      (pss_one (ps_ret (pe_cmpR (op_eqD hr.units) (pe_slice sl_tup (pe_call (E := E0) GW (hr.mono (by decide)) (by rfl) mW kW bW vW passL (pa_cons pe_int pa_nil)) (po_some pe_int) po_none) (pe_tup (pa_cons pe_str (pa_cons pe_str (pa_cons pe_str pa_nil)))) (nomark _)))))), ?_⟩
    refine ⟨_, rfl, a, _, rfl, .inl hL, _, _, rfl, _, _, rfl, _, rfl, ?_, ?_, for_range (fun i σ H' => ∃ v1 v2 v3 : Option V, σ = [some (.ref a), v1, v2, v3] ∧ ExtN H H' ∧ Tabs [(P0, qL)] H') ⟨none, none, none, rfl, ExtN.refl _, hT⟩ ?_ ?_⟩
    · split <;> split <;> omega
    · rw [List.length_map]
      split <;> split <;> omega
    · rintro i σ H0 hi ⟨v1, v2, v3, rfl, x0, T0⟩
      refine ⟨_, rfl, _, rfl, a, ns, _, rfl, sqL_ext hL x0, by omega, by omega, fun p x y H1 s1 hp D => ?_⟩
      refine ⟨2, rfl, by decide, by decide, for_range (fun j σ H2 => ∃ (v3 : Option V) (x z : Int), σ = [some (.ref a), some (.int (0 + (i : Int))), some (.ref p), v3] ∧ Dice H2 p x y z ∧ Tabs [(P0, qL)] H2 ∧ ExtN H H2) ⟨v3, x, 0, rfl, D, T0.ext s1, x0.trans (ext_of s1)⟩ ?_ ?_⟩
      · rintro j σ H2 hj ⟨u3, x2, z2, rfl, D2, T2, x2'⟩
        refine ⟨_, rfl, p, x2, y, z2, rfl, D2, T2, fun x3 z3 H3 D3 T3 b3 => ⟨true, rfl, ?_⟩⟩
        refine ⟨_, x3, z3, rfl, D3, T3, fun b o eb m => ?_⟩
        exact b3 b o (ne_of_none (x0 b o eb m) hp) m (x2' b o eb m)
      · rintro σ H2 ⟨u3, x2, z2, rfl, D2, T2, x2'⟩
        exact ⟨_, _, _, rfl, x2', T2⟩
    · rintro σ H' ⟨v1, v2, v3, rfl, x0, T0⟩
      have no0 : few (some (0 : Int)) = true := by decide +kernel
      have no2 : few (some (2 : Int)) = true := by decide +kernel
      have no28 : few (some (28 : Int)) = true := by decide +kernel
      refine ⟨.int 0, .ref e0, some 0, some [], rfl, .int 0, hEm _, fun hf => absurd (no0.symm.trans hf) (by simp), fun _ e => (by cases e), fun m bar em hm eb p1 H1 s1 np1 h1 => ?_⟩
      obtain rfl : m = 0 := by have := Option.some.inj em; omega
      obtain rfl : [] = bar := Option.some.inj eb
      refine ⟨(by show 0 ≤ sizeLine; omega), fun t1 nt1 => ?_⟩
      refine ⟨.tuple [], .tuple [], .tup (SqT.of (sn nt1 _ _ h1)) .nil, .tup (SqT.of upd_same) .nil, by decide +kernel, by decide +kernel, _, rfl, ?_⟩
      refine ite2 (fun h => absurd h (by decide +kernel)) (fun _ => ?_)
      refine ⟨(by show 2 ≤ sizeLine; decide), fun t2 nt2 => ?_⟩
      have et2 := (upd_same (H := upd H1 t1 (.tup [])) (a := t2) (o := .tup [.str "a", .str "c"]))
      refine ⟨rfl, rfl, .int 2, .ref t2, some 2, some ["a", "c"], rfl, .int 2, .yes (bar := ["a", "c"]) (.tup (SqT.of et2) (.base (.tup et2))) (by decide +kernel) (by decide), fun hf => absurd (no2.symm.trans hf) (by simp), fun _ e => (by cases e), fun m bar em hm eb p2 H2 s2 np2 h2 => ?_⟩
      obtain rfl : m = 2 := by have := Option.some.inj em; omega
      obtain rfl : (["a", "c"] : List PySem.Str) = bar := Option.some.inj eb
      rw [due_ac] at h2
      refine ⟨(by show 2 ≤ sizeLine; decide), fun t3 nt3 => ?_⟩
      refine ⟨.tuple [.str "b", .str "d"], .tuple [.str "b", .str "d"], .tup (SqT.of (sn nt3 _ _ h2)) (.cons (.str _) (.cons (.str _) .nil)), .tup (SqT.of upd_same) (.cons (.str _) (.cons (.str _) .nil)), by decide +kernel, by decide +kernel, _, rfl, ?_⟩
      refine ite2 (fun h => absurd h (by decide +kernel)) (fun _ => ?_)
      refine ⟨.int 28, .ref e0, some 28, some [], rfl, .int 28, hEm _, fun hf => absurd (no28.symm.trans hf) (by simp), fun _ e => (by cases e), fun m bar em hm eb p4 H4 s4 np4 h4 => ?_⟩
      obtain rfl : m = 28 := by have := Option.some.inj em; omega
      obtain rfl : [] = bar := Option.some.inj eb
      have l28 : ((due [] 28).map V.str).length = 28 := by rw [List.length_map, due_28.1]
      refine ⟨_, rfl, p4, _, rfl, SqT.of h4, (by rw [l28]; decide), fun p5 np5 => ?_⟩
      refine ⟨(by show 3 ≤ sizeLine; decide), fun t6 nt6 => ?_⟩
      have e5 := (upd_same (H := H4) (a := p5) (o := .tup (cutV ((due [] 28).map V.str) (some 25) none)))
      have e6 := sn (o := .tup [.str "z", .str "aa", .str "ab"]) nt6 _ _ e5
      rw [cut_28] at e6
      have sh : SeqAt.shaped (.tuple [.str "z", .str "aa", .str "ab"]) = true := by decide +kernel
      refine ⟨.tuple [.str "z", .str "aa", .str "ab"], .tuple [.str "z", .str "aa", .str "ab"], ?_, .tup (SqT.of upd_same) (.cons (.str _) (.cons (.str _) (.cons (.str _) .nil))), sh, sh, ?_⟩
      · exact .tup (SqT.of e6) (.cons (.str _) (.cons (.str _) (.cons (.str _) .nil)))
      · rw [SeqAt.eqv_refl _ (SeqAt.canLay_of_shaped sh)]
        exact k _
end
end K1
/-! How new_names binds; the end of a law with one table of code objects, where no repr is under way. -/
namespace K1
open PySem PySem.Spec PyProof.Rows L2 K0 LamX

theorem new_binds {K : PySem.W.Frag} {Dk e0 : Addr} {doc pm cdv ct : Value} {an : Option Addr} (hk : PySem.W.nsIn K Dk "without" = some (some (.ref e0))) : Binds K (PySem.W.fnOf "new_names" "new_names" (defArgs sNew) (defBody sNew) (defScope sNew) .none (.ref Dk) doc pm an cdv ct) ["many", "without"] [.ref e0] := fun s us X hl => by
  obtain ⟨u, rfl⟩ := List.length_eq_one_iff.mp (show us.length = 1 by simpa using hl)
  exact BindsTo.of_looks fun M => KwChain.looks (D := Dk) (l := [("without", Value.ref e0)]) X (fun q hq => by rw [List.mem_singleton.mp hq]; exact hk) ⟨_, _, _, _, _, _, rfl, rfl, rfl⟩
theorem new_kbinds {K : PySem.W.Frag} {Dk : Addr} {doc pm cdv ct : Value} {an : Option Addr} : KBn K (PySem.W.fnOf "new_names" "new_names" (defArgs sNew) (defBody sNew) (defScope sNew) .none (.ref Dk) doc pm an cdv ct) ["many", "without"] 1 ["without"] (fun us ws => us ++ ws) (fun vs zs => vs ++ zs) :=
  ⟨fun s us ws _ h1 h2 => match us, ws, h1, h2 with
    | [u], [v], _, _ => .of_eq rfl, fun r1 r2 => r1.append r2⟩
section
variable {P : Program} {w : World} {K : PySem.W.Frag} {mg mb : PySem.Str → Option Value} {s₁ : Shared} {a c P0 : Addr} {vs : List Value} {ns : List Int}
/-- what is tracked at the start: the table, and the script where it is not written -/
def startH (K : PySem.W.Frag) (P0 a : Addr) (vs : List Value) (ns : List Int) : Hp := fun b =>
  if b = P0 then some (.tbl #[]) else if b = a ∧ K.lookup a = none then some (.frz { cls := .type "list", data := .seq vs.toArray } (.lst (ns.map V.int))) else none
theorem start_none {b : Addr} (h1 : b ≠ P0) (h2 : b = a → K.lookup a ≠ none) : startH K P0 a vs ns b = none := by
  unfold startH
  rw [if_neg h1, if_neg fun z => h2 z.1 z.2]
theorem law_gT {k : Nat} {fa : Addr} {fd : FuncData} {x : PySem.Str} {sp : Sp} (KX : K.In s₁.heap) (hns : s₁.heap.Ns mainGlobals mg) (hb : s₁.heap.Ns builtinsNs mb) (hbb : ∀ x : PySem.Str, x ≠ "__name__" → mb x = bootBuiltins x) (hlim : s₁.heap.NoLimit) (hg : s₁.gens = #[])
    (hT : s₁.heap.get? P0 = some { cls := .none, data := .fields #[] }) (nT : K.lookup P0 = none) (C : PySem.W.CodeHd s₁.heap c P0)
    (hbm : ∃ (bm : Addr) (ob : Obj), mg "__builtins__" = some (.ref bm) ∧ bm ≠ builtinsNs ∧ s₁.heap.get? bm = some ob ∧ ob.cls = .type "module" ∧ ob.dict = some builtinsNs ∧ ob.data = .plain)
    (ha : s₁.heap.get? a = some { cls := .type "list", data := .seq vs.toArray }) (hi : IntsAre vs ns) (hl : ns.length ≤ sizeLine) (hr : Room k callerA)
    (F : ∀ base : Heap, K.In base → base.Ns mainGlobals mg → TabB base mg c P0 → FnG P w K mg base k fa fd [x] sp) (hbind : ∀ (s : Shared) (u : Value), BindsTo s fd ⟨[u], []⟩ [(x, u)])
    (hsp : ∀ H : Hp, H P0 = some (.tbl #[]) → SqL K H a (ns.map V.int) → sp [.ref a] H (fun v _ => v = .bl true) fun _ _ _ => False) :
    codeAny (model P w) callerA (.call (.ref fa) ⟨[.ref a], []⟩) (fun r s' => r = .ok (.ret (.bool true)) ∧ OldK s₁.heap s'.heap ∧ s'.os = s₁.os ∧ AllBare s'.gens) s₁ := by
  have rv := vals_ints hi
  have len := hi.length
  have aP : a ≠ P0 := fun z => by
    rw [z, hT] at ha
    have q := congrArg Obj.data (Option.some.inj ha)
    cases q
  have atP : startH K P0 a vs ns P0 = some (.tbl #[]) := if_pos rfl
  -- objects of other kinds are not tracked
  have other : ∀ {b : Addr} {o : Obj}, s₁.heap.get? b = some o → (∀ us n, o.data ≠ .seq us n) → o.data ≠ .fields #[] → startH K P0 a vs ns b = none := fun {b o} e h1 h2 => start_none (fun z => by
    rw [z, hT] at e
    cases e
    exact h2 rfl) fun z => by
    rw [z, ha] at e
    cases e
    exact (h1 _ _ rfl).elim
  have shows : ∀ {b : Addr} {o : Obj}, s₁.heap.get? b = some o → startH K P0 a vs ns b = none → (hidT s₁.heap (startH K P0 a vs ns)).get? b = some o := fun e n => hidT_get e n
  have names : ∀ {b : Addr} {m : PySem.Str → Option Value}, s₁.heap.Ns b m → (hidT s₁.heap (startH K P0 a vs ns)).Ns b m := fun {b m} ⟨o, es, ep, e, d, r⟩ => ⟨o, es, ep, shows e (other e (fun us n z => by rw [d] at z; cases z) fun z => by rw [d] at z; cases z), d, r⟩
  have written : K.In (hidT s₁.heap (startH K P0 a vs ns)) := fun b o e => shows (KX b o e) (start_none (fun z => by rw [z, nT] at e; cases e) fun z n => by rw [z, n] at e; cases e)
  have md : L2.Mod K mg (hidT s₁.heap (startH K P0 a vs ns)) := ⟨written, names hns, ⟨mb, names hb, hbb⟩, let ⟨mc, l1, l2⟩ := hlim; ⟨mc, names l1, l2⟩⟩
  have holds : HOk P w (startH K P0 a vs ns) s₁.heap := fun b u e => by
    by_cases h1 : b = P0
    · subst h1
      rw [atP] at e
      cases e
      exact hT
    · by_cases h2 : b = a ∧ K.lookup a = none
      · have e2 : startH K P0 a vs ns b = some (.frz { cls := .type "list", data := .seq vs.toArray } (.lst (ns.map V.int))) := by unfold startH; rw [if_neg h1, if_pos h2]
        rw [e2] at e
        cases e
        rw [h2.1]
        exact ⟨ha, by rw [List.length_map] <;> exact hl, vs, _, rv, ha⟩
      · have e2 : startH K P0 a vs ns b = none := by unfold startH; rw [if_neg h1, if_neg h2]
        rw [e2] at e
        cases e
  have script : SqL K (startH K P0 a vs ns) a (ns.map V.int) := by
    cases q : K.lookup a with
    | some o =>
      have e := KX a o q
      rw [ha] at e
      cases e
      exact .inr ⟨_, vs.toArray, _, q, rfl, rfl, rfl, by rw [List.size_toArray, len] <;> exact hl, by simpa using rv⟩
    | none => exact .inl (.inr ⟨_, by unfold startH; rw [if_neg aP, if_pos ⟨rfl, q⟩]⟩)
  have tb : TabB (hidT s₁.heap (startH K P0 a vs ns)) mg c P0 := by
    refine ⟨?_, ?_, fun z => ?_⟩
    · obtain ⟨o, us, file, tf, fl, tg, inF, tx, tt, e, r1, r2, r3, r⟩ := C
      exact ⟨o, us, file, tf, fl, tg, inF, tx, tt, shows e (other e (fun us n z => by rw [r2] at z; cases z) fun z => by rw [r2] at z; cases z; simp at r3), r1, r2, r3, r⟩
    · obtain ⟨bm, ob, g1, g2, g3, g4, g5, g6⟩ := hbm
      refine ⟨bm, ob, g1, g2, fun z => ?_, fun z => ?_, shows g3 (other g3 (fun us n z => by rw [g6] at z; cases z) fun z => by rw [g6] at z; cases z), g4, g5, g6⟩
      · obtain ⟨o, es, ep, e, d, _⟩ := hns
        rw [z, e] at g3
        cases g3
        rw [d] at g6
        cases g6
      · rw [z, hT] at g3
        cases g3
        cases g6
    · obtain ⟨o, es, ep, e, d, _⟩ := hns
      rw [z, hT] at e
      cases e
      cases d
  have e0 : Env0 P w K mg (hidT s₁.heap (startH K P0 a vs ns)) callerA [] s₁ (startH K P0 a vs ns) := ⟨rfl, md, fun b o e => of_hidT e, Nat.le_of_eq (hidT_size _ _), trivial, (fun b m => absurd (show b ∈ ([] : List Addr) from m) (by simp)), holds, .of_eq hg⟩
  refine codeAny_mono ((F _ written (names hns) tb).run callerA [] s₁ _ ⟨[.ref a], []⟩ [.ref a] [.ref a] _ _ rfl hr e0 (hbind s₁ (.ref a)) (.cons rfl .nil) (hsp _ atP script)) fun r t h => ?_
  match r, h with
  | .error _, h => exact h.elim
  | .ok .next, h => exact False.elim h
  | .ok .brk, h => exact False.elim h
  | .ok .cont, h => exact False.elim h
  | .ok (.ret u), h =>
    obtain ⟨v, H', os, bare, un, ok', rel, q⟩ := h
    obtain rfl : v = .bl true := q
    obtain rfl : u = Value.bool true := rel
    have stays : ∀ b o, b ≠ P0 → s₁.heap.get? b = some o → t.heap.get? b = some o := fun b o nb e => by
      by_cases h2 : b = a ∧ K.lookup a = none
      · have e2 : startH K P0 a vs ns b = some (.frz { cls := .type "list", data := .seq vs.toArray } (.lst (ns.map V.int))) := by unfold startH; rw [if_neg nb, if_pos h2]
        have k1 := (holds b _ e2).1
        have k2 := (ok' b _ (un.frzs b _ _ e2)).1
        rw [e] at k1
        cases k1
        exact k2
      · exact un.keep b o e (by unfold startH; rw [if_neg nb, if_neg h2]) (by intro z; exact absurd (show b ∈ ([] : List Addr) from z) (by simp)) (by simp)
    obtain ⟨more, grown⟩ := un.tbls P0 #[] atP
    have now : t.heap.get? P0 = some { cls := .none, data := .fields (#[] ++ more) } := ok' P0 _ grown
    refine ⟨rfl, ⟨fun b o e => ?_, fun b o e => ?_⟩, os, bare⟩
    · by_cases nb : b = P0
      · subst nb
        rw [hT] at e
        cases e
        exact .inr (.inl ⟨(C.tab hT).isCodeTable, rfl, #[], more, rfl, now⟩)
      · exact .inl (stays b o nb e)
    · by_cases nb : b = P0
      · rw [nb]
        exact ⟨_, now⟩
      · exact ⟨o, stays b o nb e⟩
end
theorem not_there {K : PySem.W.Frag} {h : Heap} {P0 : Addr} (X : K.In h) (n : PySem.W.noTabs K = true) (e : h.get? P0 = some { cls := .none, data := .fields #[] }) : K.lookup P0 = none := by
  cases q : K.lookup P0 with
  | none => rfl
  | some o =>
    have z := X _ _ q
    rw [e] at z
    cases z
    have z2 := List.all_eq_true.mp n (P0, _) (PySem.W.mem_of_lookupK q)
    exact absurd (show false = true from z2) Bool.false_ne_true
theorem walk_gT {l : PySem.W.OpenLaw} {n k : Nat} {q : Program} {loose : List PySem.Str} {XP : (PySem.Str → Option Value) → Heap → Prop} {YP : World → Heap → Prop} {d : DefRec} {K : Params → PySem.W.Frag} {sp : World → Addr → Sp} {x y : PySem.Str} (hn : l.most = some n) (hn2 : n ≤ sizeLine) (hdf : d.params.defaults = []) (hr : Room k callerA)
    (hrec : ((recsOf q).find? fun e => e.name == y).isSome = true) (hY : ∀ (w : World) (h : Heap), YP w h → (K w.params).In h)
    (F : ∀ (w : World) (mg : PySem.Str → Option Value) (fa : Addr) (h : Heap), (K w.params).In h → h.Ns mainGlobals mg → mg d.name = some (.ref fa) →
      ∃ (c P0 : Addr) (fd : FuncData), PySem.W.tabIn (K w.params) y = some (c, P0) ∧ PySem.W.noTabs (K w.params) = true ∧ (∀ (s : Shared) (u : Value), BindsTo s fd ⟨[u], []⟩ [(x, u)]) ∧ ∀ base : Heap, (K w.params).In base → base.Ns mainGlobals mg → TabB base mg c P0 → FnG l.prog w (K w.params) mg base k fa fd [x] (sp w P0))
    (hsp : ∀ (w : World) (P0 : Addr) (H : Hp) (a : Addr) (ns : List Int), ns.length ≤ n → H P0 = some (.tbl #[]) → SqL (K w.params) H a (ns.map V.int) → sp w P0 [.ref a] H (fun v _ => v = .bl true) fun _ _ _ => False) : PySem.W.WalkO q loose XP YP l.row.toRowW d [] (fun f vs => PySem.call f vs) := by
  refine Att.attach_call hn hdf fun w s₀ s₁ mg mb fa o pm cd doc a vs ns G Y ho hd hcd hmg hobj hints hlen hg => ?_
  have KX := hY w _ Y
  obtain ⟨c, P0, fd, ht, nt, hb, hF⟩ := F w mg fa _ KX G.T.g hmg
  obtain ⟨dr, hdr⟩ := Option.isSome_iff_exists.mp hrec
  obtain ⟨C, hT⟩ := PySem.W.tab_of G.T KX hdr ht
  exact law_gT KX G.T.g G.T.b G.T.builtins G.T.nolimit hg hT (not_there KX nt hT) C G.T.bmain hobj hints (Nat.le_trans hlen hn2) hr hF hb fun H hH hS => hsp w P0 H a ns hlen hH hS
end K1
/-! What the top has written, and the law. -/
namespace K1
open PySem PySem.Spec PyProof.Rows L2 K0 LamX

theorem all_mk {l : PySem.W.OpenLaw} {w : World} {K : PySem.W.Frag} {h : Heap} {mg : PySem.Str → Option Value} {fa CN CI i0 N0 fX Dk e0 c0 P0 fS fN fE fL fA fT fO fM fD fU fP fW fhN fhE fhL fV fF fG fQ fR fY : Addr} (X : K.In h) (G : h.Ns mainGlobals mg) (hfa : mg "law" = some (.ref fa))
    {n0 q0 : PySem.Str} {bs0 sub0 : List Value} {sn0 : List PySem.Str} {ab0 : Bool} {col0 : Option Bool} {dd0 iod0 ian0 odX anX ddE odS odN odE odL odA odT odO odM odD odU odP odW odhN odhE odhL odV odF odG odQ odR odY anS anN anE anL anA anT anO anM anD anU anP anW anhN anhE anhL anV anF anG anQ anR anY : Option Addr} {ma0 mb0 mc0 md0 me0 : Option Value} {isl0 slX slE slS slN slE slL slA slT slO slM slD slU slP slW slhN slhE slhL slV slF slG slQ slR slY : Array (Option Value)} {tk0 tk1 tk2 : Tok} {nE : Nat}
    {ioc0 ikV0 idc0 ipm0 icd0 ict0 ocX dcX pmX cdX ctX ocS ocN ocE ocL ocA ocT ocO ocM ocD ocU ocP ocW ochN ochE ochL ocV ocF ocG ocQ ocR ocY kVS kVN kVE kVL kVA kVT kVO kVM kVD kVU kVP kVW kVhN kVhE kVhL kVV kVF kVG kVQ kVR kVY dcS dcN dcE dcL dcA dcT dcO dcM dcD dcU dcP dcW dchN dchE dchL dcV dcF dcG dcQ dcR dcY pmS pmN pmE pmL pmA pmT pmO pmM pmD pmU pmP pmW pmhN pmhE pmhL pmV pmF pmG pmQ pmR pmY ctS ctN ctE ctL ctA ctT ctO ctM ctD ctU ctP ctW cthN cthE cthL ctV ctF ctG ctQ ctR ctY cdS cdN cdE cdL cdA cdT cdO cdM cdD cdU cdP cdW cdhN cdhE cdhL cdV cdF cdG cdQ cdY : Value}
    (aN : PySem.W.nsIn K mainGlobals "InvalidName" = some (some (.ref CN)))
    (aI : PySem.W.nsIn K mainGlobals "InvalidNumber" = some (some (.ref CI)))
    (qN : PySem.W.excInitIn K CN [.type "ValueError", .type "Exception", .type "BaseException", .type "object"] "ValueError.__new__" = true)
    (iN : PySem.W.findIn K (.ref CN) "__init__" = some (some (.builtin "ValueError.__init__")))
    (bN : PySem.W.subIn K (.ref CN) (.type "BaseException") = some true)
    (tN : PySem.W.typeIn K (.ref CN) = some (.type "type"))
    (kcN : PySem.W.keepIn K (.ref CN) = true)
    (xI : K.lookup CI = some (excClassObj n0 q0 CI N0 bs0 [.type "IndexError", .type "LookupError", .type "Exception", .type "BaseException", .type "object"] true sn0 sub0 ab0 col0 dd0 ma0 mb0 mc0 md0 me0 "IndexError.__new__"))
    (saI : PySem.W.findIn K (.ref CI) "__setattr__" = some (some (.builtin "object.__setattr__")))
    (nfI : PySem.W.findIn K (.ref CI) "value" = some none)
    (kcI : PySem.W.keepIn K (.ref CI) = true)
    (icI : PySem.W.findIn K (.ref CI) "__init__" = some (some (.ref i0)))
    (tiI : PySem.W.typeIn K (.ref i0) = some (.type "function"))
    (vvI : PySem.W.findCls K (.type "IndexError") (.type "type") "__init__" = some (.val (.builtin "IndexError.__init__")))
    (bI : PySem.W.subIn K (.ref CI) (.type "BaseException") = some true)
    (tI : PySem.W.typeIn K (.ref CI) = some (.type "type"))
    (ilI : K.lookup i0 = some ⟨ioc0, iod0, .func (PySem.W.fnOf "__init__" "InvalidNumber.__init__" (defArgs sIn) (defBody sIn) (defScope sIn) .none ikV0 idc0 ipm0 ian0 icd0 ict0), isl0⟩)
    (ikI : PySem.W.codeIn K icd0 "InvalidNumber.__init__" = true)
    (ipI : PySem.W.keepIn K (.ref i0) = true)
    (mnn : PySem.W.exmOne K (.ref CN) (.ref CN) = some true)
    (mni : PySem.W.exmOne K (.ref CI) (.ref CN) = some false)
    (mii : PySem.W.exmOne K (.ref CI) (.ref CI) = some true)
    (xf : xfB K CI = true)
    (cln : PySem.W.nsIn K mainGlobals "LONGEST_NAME" = some (some (.int 8 tk0)))
    (cmn : PySem.W.nsIn K mainGlobals "MOST_NAMES" = some (some (.int 500 tk1)))
    (cal : PySem.W.nsIn K mainGlobals "ALPHABET" = some (some (.str alpha tk2)))
    (zint : PySem.W.nsIn K mainGlobals "int" = some none)
    (zabs : PySem.W.nsIn K mainGlobals "abs" = some none)
    (zmax : PySem.W.nsIn K mainGlobals "max" = some none)
    (zmin : PySem.W.nsIn K mainGlobals "min" = some none)
    (zlen : PySem.W.nsIn K mainGlobals "len" = some none)
    (zrng : PySem.W.nsIn K mainGlobals "range" = some none)
    (zrep : PySem.W.nsIn K mainGlobals "repr" = some none)
    (zisi : PySem.W.nsIn K mainGlobals "isinstance" = some none)
    (zstr : PySem.W.nsIn K mainGlobals "str" = some none)
    (ztup : PySem.W.nsIn K mainGlobals "tuple" = some none)
    (zbool : PySem.W.nsIn K mainGlobals "bool" = some none)
    (zall : PySem.W.nsIn K mainGlobals "all" = some none)
    (zdvm : PySem.W.nsIn K mainGlobals "divmod" = some none)
    (zie : PySem.W.nsIn K mainGlobals "IndexError" = some none)
    (gS : PySem.W.nsIn K mainGlobals "is_integer" = some (some (.ref fS)))
    (lS : K.lookup fS = some ⟨ocS, odS, .func (PySem.W.fnOf "is_integer" "is_integer" (defArgs sInt) (defBody sInt) (defScope sInt) .none kVS dcS pmS anS cdS ctS), slS⟩)
    (cS : PySem.W.codeIn K cdS "is_integer" = true)
    (kS : PySem.W.keepIn K (.ref fS) = true)
    (gN : PySem.W.nsIn K mainGlobals "is_name" = some (some (.ref fN)))
    (lN : K.lookup fN = some ⟨ocN, odN, .func (PySem.W.fnOf "is_name" "is_name" (defArgs sIsName) (defBody sIsName) (defScope sIsName) .none kVN dcN pmN anN cdN ctN), slN⟩)
    (cN : PySem.W.codeIn K cdN "is_name" = true)
    (kN : PySem.W.keepIn K (.ref fN) = true)
    (gE : PySem.W.nsIn K mainGlobals "is_event" = some (some (.ref fE)))
    (lE : K.lookup fE = some ⟨ocE, odE, .func (PySem.W.fnOf "is_event" "is_event" (defArgs sIsEvent) (defBody sIsEvent) (defScope sIsEvent) .none kVE dcE pmE anE cdE ctE), slE⟩)
    (cE : PySem.W.codeIn K cdE "is_event" = true)
    (kE : PySem.W.keepIn K (.ref fE) = true)
    (gL : PySem.W.nsIn K mainGlobals "is_letter" = some (some (.ref fL)))
    (lL : K.lookup fL = some ⟨ocL, odL, .func (PySem.W.fnOf "is_letter" "is_letter" (defArgs sIsLetter) (defBody sIsLetter) (defScope sIsLetter) .none kVL dcL pmL anL cdL ctL), slL⟩)
    (cL : PySem.W.codeIn K cdL "is_letter" = true)
    (kL : PySem.W.keepIn K (.ref fL) = true)
    (gA : PySem.W.nsIn K mainGlobals "are_names" = some (some (.ref fA)))
    (lA : K.lookup fA = some ⟨ocA, odA, .func (PySem.W.fnOf "are_names" "are_names" (defArgs sAre) (defBody sAre) (defScope sAre) .none kVA dcA pmA anA cdA ctA), slA⟩)
    (cA : PySem.W.codeIn K cdA "are_names" = true)
    (kA : PySem.W.keepIn K (.ref fA) = true)
    (gT : PySem.W.nsIn K mainGlobals "turned_event" = some (some (.ref fT)))
    (lT : K.lookup fT = some ⟨ocT, odT, .func (PySem.W.fnOf "turned_event" "turned_event" (defArgs sTurned) (defBody sTurned) (defScope sTurned) .none kVT dcT pmT anT cdT ctT), slT⟩)
    (cT : PySem.W.codeIn K cdT "turned_event" = true)
    (kT : PySem.W.keepIn K (.ref fT) = true)
    (gO : PySem.W.nsIn K mainGlobals "other_event" = some (some (.ref fO)))
    (lO : K.lookup fO = some ⟨ocO, odO, .func (PySem.W.fnOf "other_event" "other_event" (defArgs sOther) (defBody sOther) (defScope sOther) .none kVO dcO pmO anO cdO ctO), slO⟩)
    (cO : PySem.W.codeIn K cdO "other_event" = true)
    (kO : PySem.W.keepIn K (.ref fO) = true)
    (gM : PySem.W.nsIn K mainGlobals "_name_at" = some (some (.ref fM)))
    (lM : K.lookup fM = some ⟨ocM, odM, .func (PySem.W.fnOf "_name_at" "_name_at" (defArgs sNameAt) (defBody sNameAt) (defScope sNameAt) .none kVM dcM pmM anM cdM ctM), slM⟩)
    (cM : PySem.W.codeIn K cdM "_name_at" = true)
    (kM : PySem.W.keepIn K (.ref fM) = true)
    (gD : PySem.W.nsIn K mainGlobals "_law_dice" = some (some (.ref fD)))
    (lD : K.lookup fD = some ⟨ocD, odD, .func (PySem.W.fnOf "_law_dice" "_law_dice" (defArgs sDice) (defBody sDice) (defScope sDice) .none kVD dcD pmD anD cdD ctD), slD⟩)
    (cD : PySem.W.codeIn K cdD "_law_dice" = true)
    (kD : PySem.W.keepIn K (.ref fD) = true)
    (gU : PySem.W.nsIn K mainGlobals "_law_pull" = some (some (.ref fU)))
    (lU : K.lookup fU = some ⟨ocU, odU, .func (PySem.W.fnOf "_law_pull" "_law_pull" (defArgs sPull) (defBody sPull) (defScope sPull) .none kVU dcU pmU anU cdU ctU), slU⟩)
    (cU : PySem.W.codeIn K cdU "_law_pull" = true)
    (kU : PySem.W.keepIn K (.ref fU) = true)
    (gP : PySem.W.nsIn K mainGlobals "_law_pick" = some (some (.ref fP)))
    (lP : K.lookup fP = some ⟨ocP, odP, .func (PySem.W.fnOf "_law_pick" "_law_pick" (defArgs sPick) (defBody sPick) (defScope sPick) .none kVP dcP pmP anP cdP ctP), slP⟩)
    (cP : PySem.W.codeIn K cdP "_law_pick" = true)
    (kP : PySem.W.keepIn K (.ref fP) = true)
    (gW : PySem.W.nsIn K mainGlobals "_law_word" = some (some (.ref fW)))
    (lW : K.lookup fW = some ⟨ocW, odW, .func (PySem.W.fnOf "_law_word" "_law_word" (defArgs sWord) (defBody sWord) (defScope sWord) .none kVW dcW pmW anW cdW ctW), slW⟩)
    (cW : PySem.W.codeIn K cdW "_law_word" = true)
    (kW : PySem.W.keepIn K (.ref fW) = true)
    (ghN : PySem.W.nsIn K mainGlobals "_law_is_name" = some (some (.ref fhN)))
    (lhN : K.lookup fhN = some ⟨ochN, odhN, .func (PySem.W.fnOf "_law_is_name" "_law_is_name" (defArgs sLName) (defBody sLName) (defScope sLName) .none kVhN dchN pmhN anhN cdhN cthN), slhN⟩)
    (chN : PySem.W.codeIn K cdhN "_law_is_name" = true)
    (khN : PySem.W.keepIn K (.ref fhN) = true)
    (ghE : PySem.W.nsIn K mainGlobals "_law_is_event" = some (some (.ref fhE)))
    (lhE : K.lookup fhE = some ⟨ochE, odhE, .func (PySem.W.fnOf "_law_is_event" "_law_is_event" (defArgs sLEvent) (defBody sLEvent) (defScope sLEvent) .none kVhE dchE pmhE anhE cdhE cthE), slhE⟩)
    (chE : PySem.W.codeIn K cdhE "_law_is_event" = true)
    (khE : PySem.W.keepIn K (.ref fhE) = true)
    (ghL : PySem.W.nsIn K mainGlobals "_law_is_letter" = some (some (.ref fhL)))
    (lhL : K.lookup fhL = some ⟨ochL, odhL, .func (PySem.W.fnOf "_law_is_letter" "_law_is_letter" (defArgs sLLetter) (defBody sLLetter) (defScope sLLetter) .none kVhL dchL pmhL anhL cdhL cthL), slhL⟩)
    (chL : PySem.W.codeIn K cdhL "_law_is_letter" = true)
    (khL : PySem.W.keepIn K (.ref fhL) = true)
    (gV : PySem.W.nsIn K mainGlobals "_law_values" = some (some (.ref fV)))
    (lV : K.lookup fV = some ⟨ocV, odV, .func (PySem.W.fnOf "_law_values" "_law_values" (defArgs sValues) (defBody sValues) (defScope sValues) .none kVV dcV pmV anV cdV ctV), slV⟩)
    (cV : PySem.W.codeIn K cdV "_law_values" = true)
    (kV : PySem.W.keepIn K (.ref fV) = true)
    (gF : PySem.W.nsIn K mainGlobals "_law_first_names" = some (some (.ref fF)))
    (lF : K.lookup fF = some ⟨ocF, odF, .func (PySem.W.fnOf "_law_first_names" "_law_first_names" (defArgs sFirst) (defBody sFirst) (defScope sFirst) .none kVF dcF pmF anF cdF ctF), slF⟩)
    (cF : PySem.W.codeIn K cdF "_law_first_names" = true)
    (kF : PySem.W.keepIn K (.ref fF) = true)
    (gG : PySem.W.nsIn K mainGlobals "_law_longer" = some (some (.ref fG)))
    (lG : K.lookup fG = some ⟨ocG, odG, .func (PySem.W.fnOf "_law_longer" "_law_longer" (defArgs sLonger) (defBody sLonger) (defScope sLonger) .none kVG dcG pmG anG cdG ctG), slG⟩)
    (cG : PySem.W.codeIn K cdG "_law_longer" = true)
    (kG : PySem.W.keepIn K (.ref fG) = true)
    (gQ : PySem.W.nsIn K mainGlobals "_law_told" = some (some (.ref fQ)))
    (lQ : K.lookup fQ = some ⟨ocQ, odQ, .func (PySem.W.fnOf "_law_told" "_law_told" (defArgs sTold) (defBody sTold) (defScope sTold) .none kVQ dcQ pmQ anQ cdQ ctQ), slQ⟩)
    (cQ : PySem.W.codeIn K cdQ "_law_told" = true)
    (kQ : PySem.W.keepIn K (.ref fQ) = true)
    (gR : PySem.W.nsIn K mainGlobals "_law_right" = some (some (.ref fR)))
    (lR : K.lookup fR = some ⟨ocR, odR, .func (PySem.W.fnOf "_law_right" "_law_right" (defArgs sRight) (defBody sRight) (defScope sRight) .none kVR dcR pmR anR (.ref c0) ctR), slR⟩)
    (cR : PySem.W.codeIn K (.ref c0) "_law_right" = true)
    (kR : PySem.W.keepIn K (.ref fR) = true)
    (gY : PySem.W.nsIn K mainGlobals "law" = some (some (.ref fY)))
    (lY : K.lookup fY = some ⟨ocY, odY, .func (PySem.W.fnOf "law" "law" (defArgs sLaw) (defBody sLaw) (defScope sLaw) .none kVY dcY pmY anY cdY ctY), slY⟩)
    (cY : PySem.W.codeIn K cdY "law" = true)
    (kY : PySem.W.keepIn K (.ref fY) = true)
    (gX : PySem.W.nsIn K mainGlobals "new_names" = some (some (.ref fX)))
    (lX : K.lookup fX = some ⟨ocX, odX, .func (PySem.W.fnOf "new_names" "new_names" (defArgs sNew) (defBody sNew) (defScope sNew) .none (.ref Dk) dcX pmX anX cdX ctX), slX⟩)
    (cX : PySem.W.codeIn K cdX "new_names" = true)
    (kX : PySem.W.keepIn K (.ref fX) = true)
    (dk : PySem.W.nsIn K Dk "without" = some (some (.ref e0)))
    (lkE : K.lookup e0 = some ⟨.type "tuple", ddE, .seq #[] nE, slE⟩)
    (tab : PySem.W.tabIn K "_law_right" = some (c0, P0))
    (ntb : PySem.W.noTabs K = true) :
    ∃ (c P0 : Addr) (fd : FuncData), PySem.W.tabIn K "_law_right" = some (c, P0) ∧ PySem.W.noTabs K = true ∧ (∀ (s : Shared) (v : Value), BindsTo s fd ⟨[v], []⟩ [("_law_script", v)]) ∧ ∀ base : Heap, K.In base → base.Ns mainGlobals mg → TabB base mg c P0 → FnG l.prog w K mg base 8 fa fd ["_law_script"] (spLaw K P0) := by
  have e := hfa.symm.trans (PySem.W.mg_of X G gY)
  cases e
  have T : Bare mg := ⟨PySem.W.mg_none_of X G zint, PySem.W.mg_none_of X G zabs, PySem.W.mg_none_of X G zmax, PySem.W.mg_none_of X G zmin, PySem.W.mg_none_of X G zlen, PySem.W.mg_none_of X G zrng, PySem.W.mg_none_of X G zrep, PySem.W.mg_none_of X G zisi, PySem.W.mg_none_of X G zstr, PySem.W.mg_none_of X G ztup, PySem.W.mg_none_of X G zbool, PySem.W.mg_none_of X G zall, PySem.W.mg_none_of X G zdvm⟩
  have C : Cons mg := ⟨⟨_, PySem.W.mg_of X G cln⟩, ⟨_, PySem.W.mg_of X G cmn⟩, ⟨_, PySem.W.mg_of X G cal⟩⟩
  have XN : ExN K mg CN := ⟨PySem.W.mg_of X G aN, qN, iN, bN, tN, kcN⟩
  have XI : ExI K mg CI i0 := ⟨PySem.W.mg_of X G aI, ⟨⟨_, _, _, _, _, _, _, _, _, _, _, _, _, _, _, xI, ⟨by decide +kernel, by decide +kernel, by decide +kernel⟩, by decide +kernel, by decide +kernel, fun self => by kernel_rfl⟩, saI, nfI, kcI⟩, icI, tiI, vvI, bI, tI, PySem.W.mg_none_of X G zie⟩
  have Z : Two K CN CI := ⟨mnn, mni, mii, xfB_ok xf, nfI⟩
  have hE : ∀ H : Hp, Wo K H (.ref e0) (some []) := fun H => wo_empty (its := #[]) lkE rfl rfl
  have FI := fun_mk (st := sIn) ilI ikI ipI
  have bbI := FI.binds (ps := ["self", "value"]) fun _ _ _ _ _ _ us hl => match us, hl with | [_, _], _ => rfl
  have FS := fun_mk (st := sInt) lS cS kS
  have bbS := FS.binds (ps := ["value"]) fun _ _ _ _ _ _ us hl => match us, hl with | [_], _ => rfl
  have mS := PySem.W.mg_of X G gS
  have FN := fun_mk (st := sIsName) lN cN kN
  have bbN := FN.binds (ps := ["value"]) fun _ _ _ _ _ _ us hl => match us, hl with | [_], _ => rfl
  have mN := PySem.W.mg_of X G gN
  have FE := fun_mk (st := sIsEvent) lE cE kE
  have bbE := FE.binds (ps := ["value"]) fun _ _ _ _ _ _ us hl => match us, hl with | [_], _ => rfl
  have mE := PySem.W.mg_of X G gE
  have FL := fun_mk (st := sIsLetter) lL cL kL
  have bbL := FL.binds (ps := ["value"]) fun _ _ _ _ _ _ us hl => match us, hl with | [_], _ => rfl
  have mL := PySem.W.mg_of X G gL
  have FA := fun_mk (st := sAre) lA cA kA
  have bbA := FA.binds (ps := ["value"]) fun _ _ _ _ _ _ us hl => match us, hl with | [_], _ => rfl
  have mA := PySem.W.mg_of X G gA
  have FT := fun_mk (st := sTurned) lT cT kT
  have bbT := FT.binds (ps := ["event"]) fun _ _ _ _ _ _ us hl => match us, hl with | [_], _ => rfl
  have mT := PySem.W.mg_of X G gT
  have FO := fun_mk (st := sOther) lO cO kO
  have bbO := FO.binds (ps := ["event"]) fun _ _ _ _ _ _ us hl => match us, hl with | [_], _ => rfl
  have mO := PySem.W.mg_of X G gO
  have FM := fun_mk (st := sNameAt) lM cM kM
  have bbM := FM.binds (ps := ["number"]) fun _ _ _ _ _ _ us hl => match us, hl with | [_], _ => rfl
  have mM := PySem.W.mg_of X G gM
  have FD := fun_mk (st := sDice) lD cD kD
  have bbD := FD.binds (ps := ["_law_script", "_law_at"]) fun _ _ _ _ _ _ us hl => match us, hl with | [_, _], _ => rfl
  have mD := PySem.W.mg_of X G gD
  have FU := fun_mk (st := sPull) lU cU kU
  have bbU := FU.binds (ps := ["_law_dice_here", "_law_total"]) fun _ _ _ _ _ _ us hl => match us, hl with | [_, _], _ => rfl
  have mU := PySem.W.mg_of X G gU
  have FP := fun_mk (st := sPick) lP cP kP
  have bbP := FP.binds (ps := ["_law_dice_here", "_law_items"]) fun _ _ _ _ _ _ us hl => match us, hl with | [_, _], _ => rfl
  have mP := PySem.W.mg_of X G gP
  have FW := fun_mk (st := sWord) lW cW kW
  have bbW := FW.binds (ps := ["_law_dice_here"]) fun _ _ _ _ _ _ us hl => match us, hl with | [_], _ => rfl
  have mW := PySem.W.mg_of X G gW
  have FhN := fun_mk (st := sLName) lhN chN khN
  have bbhN := FhN.binds (ps := ["_law_value"]) fun _ _ _ _ _ _ us hl => match us, hl with | [_], _ => rfl
  have mhN := PySem.W.mg_of X G ghN
  have FhE := fun_mk (st := sLEvent) lhE chE khE
  have bbhE := FhE.binds (ps := ["_law_value"]) fun _ _ _ _ _ _ us hl => match us, hl with | [_], _ => rfl
  have mhE := PySem.W.mg_of X G ghE
  have FhL := fun_mk (st := sLLetter) lhL chL khL
  have bbhL := FhL.binds (ps := ["_law_value"]) fun _ _ _ _ _ _ us hl => match us, hl with | [_], _ => rfl
  have mhL := PySem.W.mg_of X G ghL
  have FV := fun_mk (st := sValues) lV cV kV
  have bbV := FV.binds (ps := ["_law_dice_here"]) fun _ _ _ _ _ _ us hl => match us, hl with | [_], _ => rfl
  have mV := PySem.W.mg_of X G gV
  have FF := fun_mk (st := sFirst) lF cF kF
  have bbF := FF.binds (ps := ["_law_total", "_law_barred"]) fun _ _ _ _ _ _ us hl => match us, hl with | [_, _], _ => rfl
  have mF := PySem.W.mg_of X G gF
  have FG := fun_mk (st := sLonger) lG cG kG
  have bbG := FG.binds (ps := ["_law_lines", "_law_letters"]) fun _ _ _ _ _ _ us hl => match us, hl with | [_, _], _ => rfl
  have mG := PySem.W.mg_of X G gG
  have FQ := fun_mk (st := sTold) lQ cQ kQ
  have bbQ := FQ.binds (ps := ["_law_call"]) fun _ _ _ _ _ _ us hl => match us, hl with | [_], _ => rfl
  have mQ := PySem.W.mg_of X G gQ
  have FR := fun_mk (st := sRight) lR cR kR
  have bbR := FR.binds (ps := ["_law_dice_here"]) fun _ _ _ _ _ _ us hl => match us, hl with | [_], _ => rfl
  have mR := PySem.W.mg_of X G gR
  have FY := fun_mk (st := sLaw) lY cY kY
  have mY := PySem.W.mg_of X G gY
  have mX := PySem.W.mg_of X G gX
  have FX : FunD K "new_names" "new_names" (defArgs sNew) (defBody sNew) (defScope sNew) [] [("without", V.ref e0)] fX _ := ⟨⟨_, _, _, _, _, _, _, _, _, _, rfl, lX, cX, .inl ⟨rfl, rfl⟩, .inr ⟨Dk, rfl, fun q hq => by rw [List.mem_singleton.mp hq]; exact ⟨_, dk, rfl⟩⟩⟩, kX⟩
  refine ⟨c0, P0, PySem.W.fnOf "law" "law" (defArgs sLaw) (defBody sLaw) (defScope sLaw) .none kVY dcY pmY anY cdY ctY, tab, ntb, fun s v => .of_eq rfl, fun base _ _ TB => ?_⟩
  have GN := ok_is_name (P := l.prog) (w := w) (base := base) FN T C
  have GE := ok_is_event (P := l.prog) (w := w) (base := base) FE T C FN bbN mN
  have GL := ok_is_letter (P := l.prog) (w := w) (base := base) FL T C FN bbN mN FA bbA mA
  have HN := ok_lname (P := l.prog) (w := w) (base := base) FhN T
  have HE := ok_levent (P := l.prog) (w := w) (base := base) FhE T FhN bbhN mhN
  have HL := ok_lletter (P := l.prog) (w := w) (base := base) FhL T FhN bbhN mhN
  have GO := ok_other (P := l.prog) (w := w) (base := base) FO T C XN FN bbN mN FE bbE mE FT bbT mT
  have GV := ok_values (P := l.prog) (w := w) (base := base) FV T FU bbU mU FP bbP mP FW bbW mW
  have GU := ok_pull (P := l.prog) (w := w) (base := base) FU T
  have GP := ok_pick (P := l.prog) (w := w) (base := base) FP T FU bbU mU
  have GS := ok_pickS (P := l.prog) (w := w) (base := base) FP T FU bbU mU
  have GX := ok_new (P := l.prog) (w := w) (base := base) FX T C XN XI FI bbI FS bbS mS FN bbN mN FA bbA mA FM bbM mM
  have GF := ok_first (P := l.prog) (w := w) (base := base) FF T FG bbG mG
  have bX : Binds K _ ["many", "without"] [.ref e0] := new_binds (doc := dcX) (pm := pmX) (cdv := cdX) (ct := ctX) (an := anX) dk
  have kX2 := new_kbinds (K := K) (Dk := Dk) (doc := dcX) (pm := pmX) (cdv := cdX) (ct := ctX) (an := anX)
  have vX : Vals [V.ref e0] [Value.ref e0] := .cons rfl .nil
  have GR := ok_right (P := l.prog) (w := w) (base := base) (c := c0) FR rfl T Z TB XN.g XI.g FN bbN mN GN FE bbE mE GE FL bbL mL GL FhN bbhN mhN HN FhE bbhE mhE HE FhL bbhL mhL HL FO bbO mO GO FQ bbQ mQ FV bbV mV GV FU bbU mU GU FP bbP mP GP GS mX kX bX vX kX2 GX hE FF bbF mF GF
  exact ok_law FY T FD bbD mD FR bbR mR GR mX kX bX vX kX2 GX hE
end K1
open PySem PySem.W PyProof.Rows
set_option maxRecDepth 100000 in
set_option maxHeartbeats 0 in
theorem PySem.Challenge.cw_letterrules_k01_names_and_events_holds : PySem.Challenge.rw_letterrules_k01_names_and_events.Holds := by
  w_on; o_law; k_head; (case hw => w_witness2)
  k_fill
  refine K1.walk_gT (l := PySem.Challenge.rw_letterrules_k01_names_and_events) (n := 63) (k := 8) (x := "_law_script") (y := "_law_right") (sp := fun w P0 => K1.spLaw _ P0) rfl (by decide) rfl ⟨rfl, by decide, by decide⟩ (by kernel_rfl) (fun w h Y => PySem.W.km_in_of Y) ?F (fun _ _ _ a ns hl hH hS => ⟨a, ns, rfl, hS, hl, fun p hp => by rw [List.mem_singleton.mp hp]; exact LamX.TabS.nil hH, fun _ => rfl⟩)
  case F =>
    intro w mg fa h KX G hmg
    refine' K1.all_mk (P0 := 198) KX G hmg ?aN ?aI ?qN ?iN ?bN ?tN ?kcN ?xI ?saI ?nfI ?kcI ?icI ?tiI ?vvI ?bI ?tI ?ilI ?ikI ?ipI ?mnn ?mni ?mii ?xf ?cln ?cmn ?cal ?zint ?zabs ?zmax ?zmin ?zlen ?zrng ?zrep ?zisi ?zstr ?ztup ?zbool ?zall ?zdvm ?zie ?gS ?lS ?cS ?kS ?gN ?lN ?cN ?kN ?gE ?lE ?cE ?kE ?gL ?lL ?cL ?kL ?gA ?lA ?cA ?kA ?gT ?lT ?cT ?kT ?gO ?lO ?cO ?kO ?gM ?lM ?cM ?kM ?gD ?lD ?cD ?kD ?gU ?lU ?cU ?kU ?gP ?lP ?cP ?kP ?gW ?lW ?cW ?kW ?ghN ?lhN ?chN ?khN ?ghE ?lhE ?chE ?khE ?ghL ?lhL ?chL ?khL ?gV ?lV ?cV ?kV ?gF ?lF ?cF ?kF ?gG ?lG ?cG ?kG ?gQ ?lQ ?cQ ?kQ ?gR ?lR ?cR ?kR ?gY ?lY ?cY ?kY ?gX ?lX ?cX ?kX ?dk ?lkE ?tab ?ntb
    (case aN => k_is)
    (case aI => k_is)
    (case qN => kernel_rfl)
    (case iN => k_is)
    (case bN => k_is)
    (case tN => k_is)
    (case kcN => k_is)
    (case xI => k_is)
    (case saI => k_is)
    (case nfI => k_is)
    (case kcI => k_is)
    (case icI => k_is)
    (case tiI => k_is)
    (case vvI => k_is)
    (case bI => k_is)
    (case tI => k_is)
    (case ilI => k_is)
    (case ikI => k_is)
    (case ipI => k_is)
    (case mnn => kernel_rfl)
    (case mni => kernel_rfl)
    (case mii => kernel_rfl)
    (case xf => kernel_rfl)
    (case cln => k_is)
    (case cmn => k_is)
    (case cal => k_is)
    (case zint => k_is)
    (case zabs => k_is)
    (case zmax => k_is)
    (case zmin => k_is)
    (case zlen => k_is)
    (case zrng => k_is)
    (case zrep => k_is)
    (case zisi => k_is)
    (case zstr => k_is)
    (case ztup => k_is)
    (case zbool => k_is)
    (case zall => k_is)
    (case zdvm => k_is)
    (case zie => k_is)
    (case gS => k_is)
    (case lS => k_is)
    (case cS => k_is)
    (case kS => k_is)
    (case gN => k_is)
    (case lN => k_is)
    (case cN => k_is)
    (case kN => k_is)
    (case gE => k_is)
    (case lE => k_is)
    (case cE => k_is)
    (case kE => k_is)
    (case gL => k_is)
    (case lL => k_is)
    (case cL => k_is)
    (case kL => k_is)
    (case gA => k_is)
    (case lA => k_is)
    (case cA => k_is)
    (case kA => k_is)
    (case gT => k_is)
    (case lT => k_is)
    (case cT => k_is)
    (case kT => k_is)
    (case gO => k_is)
    (case lO => k_is)
    (case cO => k_is)
    (case kO => k_is)
    (case gM => k_is)
    (case lM => k_is)
    (case cM => k_is)
    (case kM => k_is)
    (case gD => k_is)
    (case lD => k_is)
    (case cD => k_is)
    (case kD => k_is)
    (case gU => k_is)
    (case lU => k_is)
    (case cU => k_is)
    (case kU => k_is)
    (case gP => k_is)
    (case lP => k_is)
    (case cP => k_is)
    (case kP => k_is)
    (case gW => k_is)
    (case lW => k_is)
    (case cW => k_is)
    (case kW => k_is)
    (case ghN => k_is)
    (case lhN => k_is)
    (case chN => k_is)
    (case khN => k_is)
    (case ghE => k_is)
    (case lhE => k_is)
    (case chE => k_is)
    (case khE => k_is)
    (case ghL => k_is)
    (case lhL => k_is)
    (case chL => k_is)
    (case khL => k_is)
    (case gV => k_is)
    (case lV => k_is)
    (case cV => k_is)
    (case kV => k_is)
    (case gF => k_is)
    (case lF => k_is)
    (case cF => k_is)
    (case kF => k_is)
    (case gG => k_is)
    (case lG => k_is)
    (case cG => k_is)
    (case kG => k_is)
    (case gQ => k_is)
    (case lQ => k_is)
    (case cQ => k_is)
    (case kQ => k_is)
    (case gR => k_is)
    (case lR => k_is)
    (case cR => k_is)
    (case kR => k_is)
    (case gY => k_is)
    (case lY => k_is)
    (case cY => k_is)
    (case kY => k_is)
    (case gX => k_is)
    (case lX => k_is)
    (case cX => k_is)
    (case kX => k_is)
    (case dk => k_is)
    (case lkE => k_is)
    (case tab => first | kernel_rfl | exact rfl | k_is)
    (case ntb => kernel_rfl)
    all_goals exact #[]
