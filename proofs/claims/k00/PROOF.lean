import PyProof.Rows.All
import Wide.All
import OpenK.AllK
import Wide.FinOn
import HandS.ForMost
import HandS.ExcInit
import HandS.ExcIs
import HandS.IsInst
import HandS.Wide
import HandS.ExcBuiltin
import KE.KExcMake
import PySem.Challenge.RW_letterrules_k00_errors
set_option Elab.async false
set_option linter.all false
set_option maxRecDepth 100000
set_option maxHeartbeats 4000000
/-! Exceptions of own classes held as values: made, their fields read, asked by isinstance. -/
namespace K0
open PySem PySem.Spec PyProof.Rows L2

/-! ### isinstance of an exception, with or without a dict of its own -/
section
variable {prog : Program} {w : World} {A : Around} {E : Value → Shared → Prop} {s : Shared} {K : PySem.W.Frag} {x D : Addr} {ox : Obj} {od : Option Obj}
open PySem.W
theorem found_data {C : Addr} {name : Str} {a g : Value} (hc : (clsIn K C).isSome = true) (ha : findIn K (.ref C) name = some (some a)) (hg : specialIn K a "__get__" = some (some g)) (ht : takesIn K a = some true) :
    findObj K C od name = some (.bind g a) := by
  obtain ⟨cd, e⟩ := Option.isSome_iff_exists.mp hc
  unfold findObj; rw [e, Option.bind_some, ha, Option.bind_some]; simp [hg, ht]
theorem class_of (c : ExcC K D) {Q : Option Value → Shared → Prop} (X : K.In s.heap) (I : InstAt s.heap x ox D od) (h : Q (some (.ref D)) { s with toks := s.toks + 1 }) :
    wpAny (model prog w) A (getAttr? (.ref x) "__class__") Q E s := by
  have hf : findObj K D od "__class__" = some (.bind (.builtin "getset_descriptor.__get__") (.builtin "object.__class__")) :=
    found_data (by obtain ⟨cd, e, _⟩ := any_some c.hd; rw [e]; rfl) c.ha c.hn c.ht
  obtain ⟨hp, g, d, t, os⟩ := s
  have l0 := I.type (M := model prog w)
  have l1 := looks_findIn (M := model prog w) X c.hg
  have l2 := looks_findIn (M := model prog w) X c.hk
  have l3 := looks_find (M := model prog w) X I hf
  have sb : Looks (model prog w) hp (isInstance (.ref x) (.type "BaseException")) true := l0.andThen (looks_subIn X c.hs)
  have z0 : (false && onTheHeap (Value.builtin "BaseException.__getattribute__")) = false := rfl
  have z2 : (Value.builtin "BaseException.__getattribute__" == Value.builtin "object.__getattribute__") = false := by decide +kernel
  have z1 : (onTheHeap (Value.ref D) && Value.builtin "BaseException.__getattribute__" == Value.builtin "object.__getattribute__") = false := by rw [z2] <;> rfl
  unfold getAttr? getAttrBy? getAttrBy
  refine wpAny_bind (wpAny_mkText (wpAny_bind (wpAny_attempt (wpAny_holding (wpAny_bind (l0.at (wpAny_bind (l1.at ?a))))))))
  show wpAny _ _ (if (onTheHeap (Value.ref D) && Value.builtin "BaseException.__getattribute__" == Value.builtin "object.__getattribute__") = true then _ else _) _ _ _
  rw [z1, if_neg Bool.false_ne_true]
  unfold getAttrByItsOwn hookBefore; refine wpAny_bind ?_
  rw [if_pos (show onTheHeap (Value.ref D) = true from rfl)]
  refine l2.at ?_; refine wpAny_bind (wpAny_attempt (wpAny_holding ?_))
  unfold callGetattribute; rw [z0, if_neg Bool.false_ne_true]
  unfold boundAndCalled; rw [PySem.F.excAttr_ValueError.ga.bind (.ref x)]
  refine wpAny_bind (wpAny_pure ?_)
  show wpAny _ _ (call (.builtin "BaseException.__getattribute__") [.ref x, .str "__class__" t]) _ _ _
  refine wpAny_call (codeAny_call_builtin PySem.F.excAttr_ValueError.ga.plain PySem.F.entry_bexc_ga ?b)
  refine @check_slot (model prog w) _ _ ⟨hp, g, d, t + 1, os⟩ "BaseException.__getattribute__" "BaseException" "__getattribute__" (.ref x) [.str "__class__" t] [] _ (by decide +kernel) (by decide +kernel) sb (PySem.F.args_bexc_ga (.ref x) (.str "__class__" t)) ?c
  unfold Builtin.«object.__getattribute__»
  refine wpAny_bind (wpAny_of_eq (a := ((Value.ref x : Value), [Value.str "__class__" t])) (by first | rfl | (simp only [slotArgs]; rfl)) ?d)
  refine wpAny_bind (wpAny_pure (wpAny_bind (l0.at (wpAny_bind (l3.at ?e)))))
  show wpAny _ _ (holding [Value.builtin "object.__class__"] (call (.builtin "getset_descriptor.__get__") [.builtin "object.__class__", .ref x, .ref D]) >>= ret) _ _ _
  refine wpAny_bind (wpAny_holding (wpAny_call (class_get (s := ⟨hp, g, d, t + 1, os⟩) (ox := ox) (od := od) X I c.hm ?f)))
  refine wpAny_pure ?_
  show wpAny _ _ (handedOut (.ref D)) _ _ _
  rw [handedOut_of (v := .ref D) rfl]
  first | exact wpAny_pure (wpAny_pure h) | exact wpAny_pure h | exact wpAny_pure (wpAny_bind (wpAny_pure (wpAny_pure h)))
theorem kit_exc (c : ExcC K D) : KitX K (.ref x) (.ref D) (fun h => InstAt h x ox D od) where
  ty := fun _ _ _ I => I.type
  it := fun _ _ X _ => by
    obtain ⟨cd, hc, _⟩ := any_some c.hd
    unfold clsIn at hc; split at hc
    · rename_i c' d' cd' sl' ho
      intro A' Q' E' s' k q; unfold isType loadHead
      exact wpAny_bind (wpAny_loadPart (k _ _ (X _ _ ho)) (wpAny_pure q))
    · cases hc
  ne := fun h tp dd its n sl X htp => by
    obtain ⟨cd, hc, _⟩ := any_some c.hd
    refine Bool.eq_false_iff.mpr fun q => ?_
    have e : D = tp := Value.ref.inj (beq_iff_eq.mp q)
    subst e; unfold clsIn at hc; split at hc
    · rename_i c' d' cd' sl' ho
      have z := (X _ _ ho).symm.trans htp
      cases z
    · cases hc
  ca := fun X I k => class_of c X I k
end

/-- at a: an exception of the class at C that is made (with a field f that holds v, or none) -/
def ExAt (H : Hp) (a C : Addr) (fv : Option (Str × V)) : Prop := match fv with
  | none => H a = some (exo a C none)
  | some (f, v) => ∃ d, H a = some (exo a C (some d)) ∧ H d = some (exd d [(f, v)])
theorem ExAt.same {H H' : Hp} {a C : Addr} {fv : Option (Str × V)} (h : ExAt H a C fv) (s : Same H H') : ExAt H' a C fv := by
  cases fv with
  | none => exact s _ _ h
  | some p => obtain ⟨d, h1, h2⟩ := h; exact ⟨d, s _ _ h1, s _ _ h2⟩
section
variable {X : Cx} {pins : List (Addr × Obj)} {σ : L2.St} {H : Hp} {s : Shared}
theorem ExAt.inst {a C : Addr} {fv : Option (Str × V)} (I : Inv X pins σ H s) (h : ExAt H a C fv) : ∃ ox od, PySem.W.InstAt s.heap a ox C od ∧ ∀ f v, fv = some (f, v) → ∃ o u, od = some o ∧ RelV v u ∧ PySem.W.lookIn f o = some (some u) := by
  cases fv with
  | none =>
    obtain ⟨t1, ho⟩ := exo_at I.hok h
    exact ⟨_, none, ⟨ho, rfl, rfl, trivial⟩, fun f v e => by cases e⟩
  | some p =>
    obtain ⟨f, v⟩ := p
    obtain ⟨d, h1, h2⟩ := h
    obtain ⟨t1, ho⟩ := exo_at I.hok h1
    obtain ⟨mA, hns, hr⟩ := exd_at I.hok h2
    obtain ⟨o, hd, hl⟩ := lookIn_ns hns
    refine ⟨_, some o, ⟨ho, rfl, rfl, hd⟩, fun f' v' e => ?_⟩
    cases e
    have l : List.lookup f [(f, v)] = some v := by simp [List.lookup]
    obtain ⟨u, hu, ru⟩ := RelO.some_of (v := v) (o := mA f) (by rw [← l]; exact hr f)
    exact ⟨o, u, rfl, ru, by rw [hl, hu]⟩
end
def rIsX (K : PySem.W.Frag) : List V → Hp → VK → Prop := fun xs H Q => ∃ (a C : Addr) (fv : Option (Str × V)) (c : V) (cv : Value) (b : Bool), xs = [.ref a, c] ∧ ExAt H a C fv ∧ ExcC K C ∧ ClsV c cv ∧ PySem.W.kitOne K (.ref C) cv = some b ∧ Q (.bl b) H
theorem call_isX {X : Cx} : CallR X (.builtin "isinstance") (rIsX X.K) := by
  intro pins s σ H xs us Q I r h
  obtain ⟨a, C, fv, c, cv, b, rfl, hx, xc, k, e, q⟩ := h
  obtain ⟨u1, u2, rfl, r1, r2⟩ := vals2 r
  obtain rfl : u1 = Value.ref a := r1
  have e2 := k.eq r2
  subst e2
  obtain ⟨ox, od, J, _⟩ := hx.inst I
  exact PySem.W.kia_one (kit_exc xc) I.kIn J e (fun z => nomatch z) fun tk => ⟨.bl b, H, I.tok tk, rfl, q⟩
/-- e.f, e an exception with the field f -/
def tExF (K : PySem.W.Frag) (f : Str) (te : TE) : TE := fun σ H Q => te σ H fun x H1 => ∃ (a C : Addr) (v : V), x = .ref a ∧ ExAt H1 a C (some (f, v)) ∧ ExcC K C ∧ PySem.W.findIn K (.ref C) f = some none ∧ Q v H1
theorem pe_exf {X : Cx} {e : Expr} {te : TE} {f : Str} {pos : Pos} (he : PE X e te) (hb : attributeBase e f X.env (eval e X.env) = eval e X.env := by rfl) : PE X (.Attribute e f pos) (tExF X.K f te) := by
  refine ⟨fun pins s σ H Q I h => ?_⟩
  refine attr_of hb (thn (he.run pins s σ H _ I h) fun u s1 ⟨x, H1, I1, rx, a, C, v, ex, hx, xc, hn, q⟩ => ?_)
  subst ex
  obtain rfl : u = Value.ref a := rx
  obtain ⟨ox, od, J, hv⟩ := hx.inst I1
  obtain ⟨o, u, eo, ru, hl⟩ := hv f v rfl
  subst eo
  exact HandSPX.exc_get I1.kIn J xc.hg xc.hk xc.hs (PySem.W.findObj_own xc.hd hn rfl hl) (handed_of ru) ⟨v, H1, I1.tok _, ru, q⟩

/-! ### made: a class without an __init__ of its own -/
theorem pe_exm {X : Cx} {C : Addr} {bmB : List Value} {B newId initId : String} {x : Str} {e : Expr} {ta : TE} {p pos : Pos} (F : ExcBaseFacts B newId initId bmB) (q : PySem.W.excInitIn X.K C bmB newId = true)
    (hi : PySem.W.findIn X.K (.ref C) "__init__" = some (some (.builtin initId))) (gC : X.mg x = some (.ref C)) (kC : PySem.W.keepIn X.K (.ref C) = true) (hg : Gl X x) (he : PE X e ta)
    (hs : starEach [e] X.env = (false, eval e X.env) :: starEach [] X.env := by rfl) (hdb : (x == ("__debug__" : Str)) = false := by decide) :
    PE X (.Call (.Name x p) [e] [] pos) (fun σ H Q => ta σ H fun _ H1 => ∀ a, H1 a = none → Q (.ref a) (upd H1 a (exo a C none))) := by
  refine ⟨fun pins s σ H Q I h => ?_⟩
  refine wpAny_Call_Name_kw (ld_glob I hg gC ?_ hdb)
  refine PySem.W.callWith_K (h₀ := X.base) I.ok.mod.kin kC ?_ hs (by rfl)
  rw [hs]
  show wpAny _ _ (spliced ((false, eval e X.env) :: backTo pos (starEach [] X.env))) _ _ s
  refine Calls.spliced_cons (thn (he.run pins s σ H _ I h) fun u s1 ⟨v, H1, I1, r1, q1⟩ => ?_)
  refine Calls.spliced_nil ⟨I1.kIn, ?_⟩
  show wpAny _ _ (call (.ref C) [u]) _ _ _
  obtain ⟨nm, N, qn, bs, bm, hdct, sn, sub, ab, col, dd, k0, k1, k2, k3, k5, hC, hT⟩ := PySem.W.excInit_of I1.kIn q
  have hl := PySem.W.looks_findIn (M := model X.prog X.w) I1.kIn hi
  obtain ⟨hp, g, d, tk, os⟩ := s1
  refine PySem.W.call_B F hT hC hl (by show 1 ≤ sizeLine; rw [sizeLine_eq]; omega) fun h' k ha ht => ?_
  have hsz : hp.objs.size ≤ hp.objs.size + 1 := Nat.le_succ _
  exact ⟨.ref (hp.objs.size + 1), _, I1.laid (t' := tk) (a := hp.objs.size + 1) (o := exo (hp.objs.size + 1) C none) k hsz (exo_ok ha), rfl, q1 _ (I1.hok.fresh hsz)⟩
end K0
/-! An own exception class whose base's __new__ may be an elder class's: C(..) with an __init__ of its own; Base.__init__(self, ..); the first field stored. -/
namespace K0
open PySem PySem.Spec PyProof.Rows
open Builtin Builtin.ObjectAttr

/-- what B's own __init__ is in the model -/
structure InitF (B initId : String) : Prop where
  init : Slot B "__init__" initId
  entry : entryFor table initId = some Builtin.«BaseException.__init__»
  split : splitId initId = some (B, "__init__")
  kind : builtinKind initId = some .slot
  row : Manifest.signature? initId = some ⟨.positional, "*", B, .self, [⟨"args", .varPos, false⟩]⟩
  star : (B != "*") = true
theorem InitF.of {B n i : String} (c : PyProof.Rows.ExcClass B n i) : InitF B i := ⟨c.init, c.initEntry, c.initSplit, c.initKind, c.initSig, c.notStar⟩
/-- what a class's tail of bases says where its __new__ is that of Bn -/
structure TailF (Bn : String) (bm : List Value) : Prop where
  hB : bm.contains (.type Bn) = true
  hA : bm.contains (.type "AttributeError") = false
  hN : bm.contains (.type "NameError") = false

section
variable {prog : Program} {w : World} {A : Around} {E : Value → Shared → Prop} {R : Result → Shared → Prop} {h : Heap} {g : Array GenState} {d : Drawn} {t : Nat} {os : OsState}
variable {nm q : PySem.Str} {C N : Addr} {bs bm bmB : List Value} {hdct : Bool} {sn : List PySem.Str} {sub : List Value} {ab : Bool} {col : Option Bool} {dd : Option Addr} {k0 k1 k2 k3 k5 : Option Value} {B Bi newId initN initId : String}
theorem chk_new {M : Model} (F : ExcBaseFacts B newId initN bmB) (T : TailF B bm) {rest : List Value} {Q : Unit → Shared → Prop}
    (hC : h.get? C = some (excClassObj nm q C N bs bm hdct sn sub ab col dd k0 k1 k2 k3 k5 newId)) (hq : Q () ⟨h, g, d, t, os⟩) : wpAny M A (checkBuiltinCall newId ⟨.ref C :: rest, []⟩) Q E ⟨h, g, d, t, os⟩ := by
  have c1 : (Value.ref C :: bm).contains (.type B) = true := by rw [List.contains_cons, T.hB, Bool.or_true]
  have c2 := F.noStar
  simp only [checkBuiltinCall, F.newKind, F.newSplit, F.newRow]
  repeat (first | refine wpAny_loadPart_at hC ?_ | (refine wpAny_isSubtype_exc hC ?_; rw [c1]) | refine wpAny_staticBase_exc hC ?_ | refine wpAny_madeBy_exc hC ?_ | simp only [bne_self_eq_false, Bool.false_eq_true, if_false] | wp_step)
  exact hq
theorem chk_init {M : Model} (G : InitF Bi initId) (hB : bm.contains (.type Bi) = true) {e : Addr} {oe : Obj} {rest : List Value} {Q : Unit → Shared → Prop}
    (hC : h.get? C = some (excClassObj nm q C N bs bm hdct sn sub ab col dd k0 k1 k2 k3 k5 newId)) (he : h.get? e = some oe) (hcls : oe.cls = .ref C) (hq : Q () ⟨h, g, d, t, os⟩) : wpAny M A (checkBuiltinCall initId ⟨.ref e :: rest, []⟩) Q E ⟨h, g, d, t, os⟩ := by
  have c1 : (Value.ref C :: bm).contains (.type Bi) = true := by rw [List.contains_cons, hB, Bool.or_true]
  have c2 := G.star
  simp only [checkBuiltinCall, G.kind, G.split, G.row]
  repeat (first | (with_reducible refine wpAny_loadPart_at he ?_; rw [hcls]) | with_reducible refine wpAny_loadPart_at hC ?_ | (with_reducible refine wpAny_isSubtype_exc hC ?_; rw [c1]) | wp_step)
  refine wpAny_onRaise ?_
  have z : ∀ (a b : String) (n : Nat), Bind.check ⟨.positional, "*", Bi, .self, [⟨"args", .varPos, false⟩]⟩ a b n (List.map (fun x => x.fst) ({ pos := Value.ref e :: rest } : Args).kw) = pure () := fun a b n => check_star_args _ _ _ _ _ _
  rw [z]
  exact wpAny_pure hq
theorem new_ex (F : ExcBaseFacts B newId initN bmB) (T : TailF B bm) {rest : List Value} (hC : h.get? C = some (excClassObj nm q C N bs bm hdct sn sub ab col dd k0 k1 k2 k3 k5 newId))
    (hq : R (.ok (.ret (.ref (h.objs.size + 1)))) ⟨(h.push { cls := .type "tuple", data := .seq rest.toArray }).push { cls := .ref C, data := .fields #[.ref h.objs.size, .none, .none, .none, .bool false, .none] }, g, d, t, os⟩) (hrest : rest.length ≤ sizeLine) :
    codeAny (model prog w) A (.builtin newId ⟨.ref C :: rest, []⟩) R ⟨h, g, d, t, os⟩ := by
  have c0 := F.ends
  have c1 : (Value.ref C :: bm).contains (.type B) = true := by rw [List.contains_cons, T.hB, Bool.or_true]
  have c2 : (Value.ref C :: bm).contains (.type "AttributeError") = false := by rw [List.contains_cons, T.hA] <;> rfl
  have c3 : (Value.ref C :: bm).contains (.type "NameError") = false := by rw [List.contains_cons, T.hN] <;> rfl
  refine codeAny_builtinAt F.entry ?_
  unfold Builtin.«BaseException.__new__»; refine PySem.wpAt_bind ?_
  show PySem.wpAt _ _ _ (stack >>= _) _ _ _
  refine PySem.wpAt_bind (PySem.wpAt_stack fun p below => PySem.wpAt_of_wpAny ?_); wp_walk
  refine PySem.wpAt_of_wpAny ?_; rw [F.owner]
  repeat (first | with_reducible refine wpAny_madeHere_exc F.canon hC ?_ | with_reducible refine wpAny_loadPart_at hC ?_ | (with_reducible refine wpAny_isSubtype_exc hC ?_; first | rw [c1] | rw [c2] | rw [c3]) | wp_step)
  show R _ _
  rw [Heap.size_push]; exact hq
theorem tcall_ex (F : ExcBaseFacts B newId initN bmB) (T : TailF B bm) {rest : List Value} {fI : Addr} {Q : Fin → Shared → Prop} (hC : h.get? C = some (excClassObj nm q C N bs bm hdct sn sub ab col dd k0 k1 k2 k3 k5 newId))
    (hi : PySem.W.Looks (model prog w) h (typeLookup (.ref C) "__init__") (some (.ref fI))) (hb : ∀ self, PySem.W.Looks (model prog w) h (bindSpecial (.ref fI) self) (.ref fI, [self])) (hrest : rest.length ≤ sizeLine)
    (hq : codeAny (model prog w) A (.call (.ref fI) ⟨.ref (h.objs.size + 1) :: rest, []⟩) (fun r s' => match r with | .ok (.ret v) => v = .none ∧ Q (.done (.ret (.ref (h.objs.size + 1)))) s' | .ok _ => False | .error e => E e s') ⟨(h.push (W.kdv_tup rest)).push (HandSPX.excO C h.objs.size), g, d, t, os⟩) :
    wpAny (model prog w) A (Builtin.«type.__call__» ⟨.ref C :: rest, []⟩) Q E ⟨h, g, d, t, os⟩ := by
  repeat (first | with_reducible refine wpAny_loadPart_at hC ?_ | with_reducible refine wpAny_madeBy_exc hC ?_ | wp_step)
  refine codeAny_call_builtin_code (Code.quiet_builtin _ F.quiet) (chk_new F T hC ?_); refine new_ex F T hC ?_ hrest
  show wpAny _ _ _ _ _ _
  have k : ∀ b o, h.get? b = some o → ((h.push (W.kdv_tup rest)).push (HandSPX.excO C h.objs.size)).get? b = some o := fun b o e => Heap.get?_push_of_some _ (Heap.get?_push_of_some _ e)
  have hC1 := k _ _ hC
  have hget : ((h.push (W.kdv_tup rest)).push (HandSPX.excO C h.objs.size)).get? (h.objs.size + 1) = some (HandSPX.excO C h.objs.size) := by heap_get
  have cC : (Value.ref C :: bm).contains (.ref C) = true := by simp
  have i1 := hi.keeps k; have b1 := (hb (.ref (h.objs.size + 1))).keeps k
  unfold isInstance
  repeat (first | with_reducible refine wpAny_loadPart_at hget ?_ | (with_reducible refine wpAny_isSubtype_exc hC1 ?_; rw [cC]) | wp_step)
  show wpAny _ _ (typeLookup (.ref C) _) _ _ _
  refine i1.at ?_; refine wpAny_holding (wpAny_bind (b1.at ?_))
  refine wpAny_bind (wpAny_call (codeAny_mono hq fun r s' z => ?_))
  rcases r with e | (v | _ | _ | _) <;> first | exact z | exact z.elim | skip
  obtain ⟨rfl, z⟩ := z
  first | exact wpAny_pure (wpAny_pure z) | (wp_walk; exact z)
theorem call_ex (F : ExcBaseFacts B newId initN bmB) (T : TailF B bm) {rest : List Value} {fI : Addr} (hC : h.get? C = some (excClassObj nm q C N bs bm hdct sn sub ab col dd k0 k1 k2 k3 k5 newId))
    (hi : PySem.W.Looks (model prog w) h (typeLookup (.ref C) "__init__") (some (.ref fI))) (hb : ∀ self, PySem.W.Looks (model prog w) h (bindSpecial (.ref fI) self) (.ref fI, [self])) (hrest : rest.length ≤ sizeLine)
    (hq : codeAny (model prog w) (A.under (.builtin "type.__call__" ⟨.ref C :: rest, []⟩)) (.call (.ref fI) ⟨.ref (h.objs.size + 1) :: rest, []⟩) (W.InitBack (h.objs.size + 1) R) ⟨(h.push (W.kdv_tup rest)).push (HandSPX.excO C h.objs.size), g, d, t, os⟩) :
    codeAny (model prog w) A (.call (.ref C) ⟨rest, []⟩) R ⟨h, g, d, t, os⟩ := by
  have f1 := tc_lookup; have f2 := tc_bind (.ref C)
  have hTy : (⟨h, g, d, t, os⟩ : Shared).TypeIs (.ref C) "type" := ⟨_, hC, rfl⟩
  refine codeAny_of_tree ?_
  show wpAny _ _ (callAny (.ref C) _) _ _ _
  repeat (any_goals (first | assumption | with_reducible refine wpAny_loadPart_at hC ?_ | wp_step))
  refine ⟨rfl, ?_⟩
  refine codeAny_call_builtin_at (Code.quiet_builtin _ (by decide +kernel)) entry_typeCall (wpAny_check_type_call_sub hC (tcall_ex F T hC hi hb hrest ?_))
  refine codeAny_mono hq fun r s' z => ?_
  rcases r with e | (v | _ | _ | _) <;> exact z
/-- Base.__init__(e, ..): the args are laid anew -/
theorem base_init (G : InitF Bi initId) (hB : bm.contains (.type Bi) = true) {e t0 : Addr} {rest : List Value} (hC : h.get? C = some (excClassObj nm q C N bs bm hdct sn sub ab col dd k0 k1 k2 k3 k5 newId)) (he : h.get? e = some (HandSPX.excO C t0)) (hrest : rest.length ≤ sizeLine)
    (hq : ∀ h' t1, (∀ b o, b ≠ e → h.get? b = some o → h'.get? b = some o) → h'.get? e = some (HandSPX.excO C t1) → R (.ok (.ret .none)) ⟨h', g, d, t, os⟩) : codeAny (model prog w) A (.call (.builtin initId) ⟨.ref e :: rest, []⟩) R ⟨h, g, d, t, os⟩ := by
  refine codeAny_call_builtin G.init.plain G.entry (chk_init G hB hC he rfl ?_); wp_walk
  refine hq _ h.objs.size (fun b o hb ho => ?_) ?_
  · rw [Heap.get?_update_other _ _ (Ne.symm hb)]; exact Heap.get?_push_of_some _ ho
  · rw [Heap.get?_update_self _ (Heap.get?_push_of_some _ he) rfl] <;> rfl
end
section
variable {prog : Program} {w : World} {A : Around} {E : Value → Shared → Prop} {R : Result → Shared → Prop} {hp : Heap} {g : Array GenState} {d : Drawn} {t : Nat} {os : OsState}
/-- the class's line lets a field be stored -/
structure Passes (C : Addr) (cd : ClassData) : Prop where
  ne : cd.mro.isEmpty = false
  ob : cd.mro.contains (.type "object") = true
  ok : ∀ self : Value, refuseLoop self "__setattr__" cd.mro = pure ()
  hd : cd.hasDict = true
theorem osa_new {K : W.Frag} {name : PySem.Str} {tk : Tok} {v : Value} {x C : Addr} {fv : Array Value} {cd : ClassData}
    (X : K.In hp) (hx : hp.get? x = some { cls := .ref C, data := .fields fv }) (hcd : W.clsIn K C = some cd) (P : Passes C cd) (ha : W.findIn K (.ref C) name = some none)
    (hq : ∀ h' tk' dx, (∀ b o, b ≠ x → hp.get? b = some o → h'.get? b = some o) → hp.objs.size ≤ dx → dx ≠ x → h'.get? x = some { cls := .ref C, dict := some dx, data := .fields fv } → h'.Ns1 dx (fun y => if y = name then some v else none) → R (.ok (.ret .none)) ⟨h', g, d, tk', os⟩) :
    codeAny (model prog w) A (.call (.builtin "object.__setattr__") ⟨[.ref x, .str name tk, v], []⟩) R ⟨hp, g, d, t, os⟩ := by
  have I : W.InstAt hp x { cls := .ref C, data := .fields fv } C none := ⟨hx, rfl, rfl, trivial⟩
  have SF := F.store_object
  have hxs : x ≠ hp.objs.size := Nat.ne_of_lt (Heap.lt_size hx)
  have sb : W.Looks (model prog w) hp (isInstance (.ref x) (.type "object")) true := I.type.andThen (W.looks_mroIn X (by unfold W.mroIn; rw [hcd, Option.bind_some, if_neg (by rw [P.ne]; decide), P.ob]))
  refine codeAny_call_builtin SF.slot.plain SF.entry (@W.check_slot (model prog w) _ _ ⟨hp, g, d, t, os⟩ "object.__setattr__" "object" "__setattr__" (.ref x) [.str name tk, v] [] _ SF.kind SF.split sb (SF.args (.ref x) (.str name tk) v) ?_)
  have l1 : W.Looks (model prog w) hp (mroOf (.ref C)) cd.mro := (W.looks_clsIn X hcd).andThen .now
  have l2 : W.Looks (model prog w) hp (storeTaker? none) none := .now
  have l3 : W.Looks (model prog w) hp (classData C) cd := W.looks_clsIn X hcd
  rw [W.osa_eq, refuse_eq]
  refine wpAny_bind (wpAny_bind (I.type.at (wpAny_bind (l1.at ?b)))); rw [P.ok]
  refine wpAny_pure (wpAny_bind (I.type.at (wpAny_bind ((W.looks_findIn X ha).at (wpAny_bind (l2.at ?c))))))
  show wpAny _ _ (storeInOwnDict (.ref x) (.ref C) (.str name tk) name v false) _ _ _
  have hd := P.hd
  obtain ⟨nm, bs, mro, ns, qn, hd', sn, sb', ab, col, del⟩ := cd
  dsimp only at hd
  subst hd
  unfold storeInOwnDict ownDictForStores
  repeat (first | with_reducible refine HandSPX.store_in_new ?_ ?_ | with_reducible refine wpAny_loadPart_at hx ?_ | with_reducible refine l3.at ?_ | wp_step)
  · exact ⟨_, #[], _, (Heap.get?_update_ne _ _ _ _ hxs.symm).trans (Heap.get?_push_at rfl rfl), rfl, fun e he => absurd he (by simp), fun _ => rfl⟩
  · intro h' tk' hn' hs
    have hx1 : (hp.push { cls := .type "dict", data := .dict #[] }).get? x = some { cls := .ref C, data := .fields fv } := Heap.get?_push_of_some _ hx
    refine hq h' tk' hp.objs.size (fun b o hb ho => ?_) (Nat.le_refl _) hxs.symm ?_ hn'
    · exact (hs.2 b (Nat.ne_of_lt (Heap.lt_size ho))).trans ((Heap.get?_update_ne _ _ _ _ hb).trans (Heap.get?_push_of_some _ ho))
    · exact (hs.2 x hxs).trans (Heap.get?_update_self _ hx1 rfl)
end
end K0
/-! Own exception classes with an __init__ of their own that calls their base's and keeps one value. -/
namespace K0
open PySem PySem.Spec PyProof.Rows L2

/-- what the written part says of such a class: B its built-in base, Bn the class whose __new__ it has, f its field -/
structure OwnX (K : PySem.W.Frag) (C : Addr) (B Bn newId : String) (f : PySem.Str) : Prop where
  cls : ∃ nm q N bs bm sn sub ab col dd k0 k1 k2 k3 k5, K.lookup C = some (excClassObj nm q C N bs bm true sn sub ab col dd k0 k1 k2 k3 k5 newId) ∧ TailF Bn bm ∧ bm.contains (.type B) = true ∧ bm.contains (.type "object") = true ∧ ∀ self : Value, refuseLoop self "__setattr__" bm = pure ()
  sa : PySem.W.findIn K (.ref C) "__setattr__" = some (some (.builtin "object.__setattr__"))
  noF : PySem.W.findIn K (.ref C) f = some none
  kC : PySem.W.keepIn K (.ref C) = true
section
variable {K : PySem.W.Frag} {C : Addr} {B Bn newId : String} {f : PySem.Str}
theorem OwnX.line (T : OwnX K C B Bn newId f) : ∃ cd, PySem.W.clsIn K C = some cd ∧ Passes C cd := by
  obtain ⟨nm, q, N, bs, bm, sn, sub, ab, col, dd, k0, k1, k2, k3, k5, hC, t1, t2, t3, t4⟩ := T.cls
  refine ⟨{ name := nm, bases := bs, mro := .ref C :: bm, ns := N, qualname := q, hasDict := true, slotNames := sn, subclasses := sub, abstract := ab, collection := col, hasDel := false }, by unfold PySem.W.clsIn; rw [hC] <;> rfl, ⟨rfl, ?_, fun self => ?_, rfl⟩⟩
  · show (Value.ref C :: bm).contains (.type "object") = true
    rw [List.contains_cons, t3, Bool.or_true]
  · show refuseLoop self "__setattr__" (Value.ref C :: bm) = pure ()
    rw [refuseLoop_ref, t4]
end
section
variable {X : Cx} {pins : List (Addr × Obj)} {σ : L2.St} {H : Hp} {s : Shared} {a C : Addr} {B Bn newId initN initId : String} {bmB : List Value} {f : PySem.Str}
/-- self.f = y on a new one -/
theorem field_new (T : OwnX X.K C B Bn newId f) (I : Inv X pins σ H s) (e : H a = some (exo a C none)) {y : V} {u : Value} (ry : RelV y u) {Q : Unit → Shared → Prop} {E : Value → Shared → Prop} {A : Around}
    (h : ∀ dx s', H dx = none → dx ≠ a → Inv X pins σ (upd (upd H dx (exd dx [(f, y)])) a (exo a C (some dx))) s' → Q () s') : wpAny (model X.prog X.w) A (setAttr (.ref a) f u) Q E s := by
  obtain ⟨cd, hcl, P⟩ := T.line
  obtain ⟨t1, ho⟩ := exo_at I.hok e
  obtain ⟨hp, g, d, t, os⟩ := s
  refine PySem.W.set_plain I.kIn (ox := { cls := .ref C, dict := none, data := .fields #[.ref t1, .none, .none, .none, .bool false, .none] }) (od := none) ⟨ho, rfl, rfl, trivial⟩ T.sa ?_
  refine osa_new I.kIn ho hcl P T.noF (fun h' tk' dx k dn dne hx hn => ?_)
  have hnd : H dx = none := I.hok.fresh dn
  have nd : ∀ {b : Addr} {o : Obj}, hp.get? b = some o → b ≠ dx := fun {b o} q => Nat.ne_of_lt (Nat.lt_of_lt_of_le (Heap.lt_size q) dn)
  have na : ∀ {b : Addr}, H b = none → b ≠ a := fun {b} n z => by rw [z, e] at n; cases n
  have U : Un X.fs [] H (upd (upd H dx (exd dx [(f, y)])) a (exo a C (some dx))) hp h' := {
    keep := fun b o q n _ _ => k b o (na n) q, slot := fun b o q n _ _ => ⟨o.slots, k b o (na n) q⟩,
    free := fun b o q n _ => by rw [upd_ne (na n), upd_ne (nd q)] <;> exact n,
    there := fun b o q _ => by
      by_cases hb : b = a
      · exact ⟨_, by rw [hb] <;> exact hx⟩
      · exact ⟨o, k b o hb q⟩,
    tups := fun b xs q => by rw [upd_ne (at_ne e q exo_tup), upd_ne (ne_of_none q hnd)] <;> exact q,
    frzs := fun b o v q => by rw [upd_ne (at_ne e q exo_frz), upd_ne (ne_of_none q hnd)] <;> exact q,
    tbls := fun b ps q => ⟨#[], by rw [upd_ne (at_ne e q exo_tbl), upd_ne (ne_of_none q hnd), q] <;> simp⟩ }
  refine h dx _ hnd dne (I.un (t' := tk') U fun b o q => ?_)
  by_cases hb : b = a
  · subst hb; rw [upd_same] at q; cases q; exact exo_ok hx
  · rw [upd_ne hb] at q
    by_cases hd : b = dx
    · subst hd; rw [upd_same] at q; cases q; exact exd_ok hn (relO_put (fs := []) ry fun g => True.intro)
    · rw [upd_ne hd] at q
      exact (I.hok b o q).stay (fun c v hc z => k c v (by
          rcases hc with hc | hc
          · rw [hc] <;> exact hb
          · exact at_ne e hc exo_own) z) (fun c hc => by rw [upd_ne (at_ne e hc exo_own), upd_ne (ne_of_none hc hnd)] <;> exact hc) (fun c xs hc => by rw [upd_ne (at_ne e hc exo_tup), upd_ne (ne_of_none hc hnd)] <;> exact hc)
/-- B.__init__(self, ..) -/
theorem init_new (G : InitF B initId) (T : OwnX X.K C B Bn newId f) (I : Inv X pins σ H s) (e : H a = some (exo a C none)) {us : List Value} {Q : Value → Shared → Prop} (hl : us.length ≤ sizeLine) (h : ∀ s', Inv X pins σ H s' → Q .none s') :
    wpAny (model X.prog X.w) X.A (call (.builtin initId) (.ref a :: us)) Q X.xe s := by
  obtain ⟨nm, q, N, bs, bm, sn, sub, ab, col, dd, k0, k1, k2, k3, k5, hC, t1, t2, t3, t4⟩ := T.cls
  obtain ⟨t1, ho⟩ := exo_at I.hok e
  obtain ⟨hp, g, d, t, os⟩ := s
  refine wpAny_call (base_init G t2 (I.kIn _ _ hC) ho hl fun h' t2 k hx => ?_)
  have J := I.write (t' := t) (x := a) (e := a) (o := exo a C none) (by rw [e] <;> exact True.intro) (.inl rfl) k ⟨_, hx⟩ (exo_ok hx)
  have eu : upd H a (exo a C none) = H := by
    funext b
    by_cases hb : b = a
    · rw [hb, upd_same, e]
    · rw [upd_ne hb]
  rw [eu] at J
  exact h _ J
end
/-- B.__init__(self, ..): what it asks -/
def tInit (K : PySem.W.Frag) (B Bn newId : String) (f : PySem.Str) (ta : TA) : TE := fun σ H Q => ta σ H fun vs H1 => ∃ (a C : Addr) (ws : List V), vs = .ref a :: ws ∧ ws.length ≤ 1000 ∧ OwnX K C B Bn newId f ∧ H1 a = some (exo a C none) ∧ Q .non H1
/-- self.f = e: what it asks -/
def tFirst (K : PySem.W.Frag) (B Bn newId : String) (f : PySem.Str) (to te : TE) : TS := fun D σ H => te σ H fun y H1 => to σ H1 fun x H2 => ∃ a C : Addr, x = .ref a ∧ OwnX K C B Bn newId f ∧ H2 a = some (exo a C none) ∧ ∀ dx, H2 dx = none → dx ≠ a → D.nx σ (upd (upd H2 dx (exd dx [(f, y)])) a (exo a C (some dx)))
section
variable {X : Cx} {B Bn newId initId : String} {f : PySem.Str} {o e : Expr} {es : List Expr} {to te : TE} {ta : TA} {p p' p1 p2 pos : Pos}
theorem pe_binit {x : PySem.Str} {pl : Sem Bool} (G : InitF B initId) (hg : Gl X x) (hm : X.mg x = none) (hv : bootBuiltins x = some (.type B)) (n1 : x ≠ "__name__") (n2 : (x == ("__debug__" : PySem.Str)) = false) (ty : typeOf (.type B) = pure (.type "type")) (nst : Manifest.isStub B = false)
    (vV : PySem.W.findCls X.K (.type B) (.type "type") "__init__" = some (.val (.builtin initId))) (hh : PySem.W.handedIn (.builtin initId) = true) (ha : PA X (e :: es) ta)
    (hc : eval (.Call (.Attribute (.Name x p1) "__init__" p2) (e :: es) [] pos) X.env = (do
      let ov ← eval (.Name x p1) X.env
      standAt p2.atName
      let (f, first) ← holding [ov] (getMethod ov "__init__" pl)
      callWith pos f first (backTo pos (starEach (e :: es) X.env)) (backToKw pos (keywordEach [] X.env))) := by rfl)
    (he : starEach (e :: es) X.env = (false, eval e X.env) :: starEach es X.env := by rfl) (hpl : (backTo pos (starEach es X.env)).any (·.1) = false := by rfl) :
    PE X (.Call (.Attribute (.Name x p1) "__init__" p2) (e :: es) [] pos) (tInit X.K B Bn newId f ta) := by
  refine ⟨fun pins s σ H Q I h => ?_⟩
  refine PySem.W.methodCall_KW (ld_blt I hg hm hv ?_ n1 n2) hc
  obtain ⟨m, fr⟩ := I.fr
  refine PySem.W.method_type fr I.ok.mod.kin ty nst vV hh ?_
  show wpAny _ _ (callWith pos (Value.builtin initId) [] (backTo pos (starEach (e :: es) X.env)) []) _ _ _
  refine PyProof.Rows.callWith_method1 (thn (ha.run pos pins _ σ H _ (I.tok _) h) fun us s1 ⟨vs, H1, I1, r1, a, C, ws, ev, hl, T, ea, q⟩ => ?_) he hpl
  subst ev
  cases r1 with
  | @cons _ u0 _ ur ra rw' =>
    obtain rfl : u0 = Value.ref a := ra
    have hlen : ur.length ≤ sizeLine := by rw [← Paired.length rw', sizeLine_eq]; omega
    exact init_new G T I1 ea hlen fun s' J => ⟨.non, H1, J, rfl, q⟩
theorem ps_first (ho : PE X o to) (he : PE X e te) (hs : swapsWith e (some (.Attribute o f p')) pos.line X.env = pure false := by rfl) : PS X (.Assign [.Attribute o f p'] e pos) (tFirst X.K B Bn newId f to te) := by
  refine ⟨fun pins s σ H D I h => ?_⟩
  refine plainObj_wpAny_Assign_Attribute (thn (he.run pins s σ H _ I h) fun v s1 ⟨y, H1, I1, r1, q1⟩ => thn (ho.run pins s1 σ H1 _ I1 q1) fun u s2 ⟨x, H2, I2, r2, a, C, ex, T, ea, q⟩ => ?_) hs
  subst ex
  obtain rfl : u = Value.ref a := r2
  exact field_new T I2 ea r1 fun dx s' n ne J => ⟨σ, _, J, q dx n ne⟩
end
/-- the promise of such an __init__ -/
def spInit (K : PySem.W.Frag) (B Bn newId : String) (f : PySem.Str) : Sp := fun vs H Q _ => ∃ (a C : Addr) (v : V), vs = [.ref a, v] ∧ OwnX K C B Bn newId f ∧ H a = some (exo a C none) ∧ ∀ d, H d = none → d ≠ a → Q .non (upd (upd H d (exd d [(f, v)])) a (exo a C (some d)))
/-- C(e) -/
theorem pe_exi {X : Cx} {CX : CXT} {x : PySem.Str} {C fI : Addr} {k : Nat} {fd : FuncData} {ps : List PySem.Str} {B Bn newId initN : String} {bmB : List Value} {f : PySem.Str} {e : Expr} {ta : TE} {p pos : Pos} (FB : ExcBaseFacts Bn newId initN bmB) (T : OwnX X.K C B Bn newId f)
    (iC : PySem.W.findIn X.K (.ref C) "__init__" = some (some (.ref fI))) (tI : PySem.W.typeIn X.K (.ref fI) = some (.type "function")) (F1 : FnOk X.prog X.w X.K X.mg X.base CX0 k fI fd ps (spInit X.K B Bn newId f)) (hr : Room (k + 1) X.A) (hb : Binds X.K fd ps [])
    (hg : Gl X x) (hm : X.mg x = some (.ref C)) (ha : PE X e ta) (hdb : (x == ("__debug__" : PySem.Str)) = false := by decide) (he : starEach [e] X.env = (false, eval e X.env) :: starEach [] X.env := by rfl) :
    PE X (.Call (.Name x p) [e] [] pos) (fun σ H Q => ta σ H fun v H1 => ∀ a d, H1 a = none → H1 d = none → d ≠ a → Q (.ref a) (upd (upd H1 d (exd d [(f, v)])) a (exo a C (some d)))) := by
  refine ⟨fun pins s σ H Q I h => ?_⟩
  obtain ⟨nm, q, N, bs, bm, sn, sub, ab, col, dd, k0, k1, k2, k3, k5, hC, t1, t2, t3, t4⟩ := T.cls
  refine wpAny_Call_Name_kw (ld_glob I hg hm ?_ hdb)
  refine PySem.W.callWith_K (h₀ := X.base) I.ok.mod.kin T.kC ?_ he (by rfl)
  rw [he]
  show wpAny _ _ (spliced ((false, eval e X.env) :: backTo pos (starEach [] X.env))) _ _ s
  refine Calls.spliced_cons (thn (ha.run pins s σ H _ I h) fun u s1 ⟨v, H1, I1, r1, q1⟩ => ?_)
  refine Calls.spliced_nil ⟨I1.kIn, ?_⟩
  show wpAny _ _ (call (.ref C) [u]) _ _ _
  obtain ⟨hp, g, dr, tk, os⟩ := s1
  have hsz : hp.objs.size ≤ hp.objs.size + 1 := Nat.le_succ _
  have hn : H1 (hp.objs.size + 1) = none := I1.hok.fresh hsz
  have kk : ∀ b o, hp.get? b = some o → ((hp.push (PySem.W.kdv_tup [u])).push (PySem.HandSPX.excO C hp.objs.size)).get? b = some o := fun b o e => Heap.get?_push_of_some _ (Heap.get?_push_of_some _ e)
  have hget : ((hp.push (PySem.W.kdv_tup [u])).push (PySem.HandSPX.excO C hp.objs.size)).get? (hp.objs.size + 1) = some (PySem.HandSPX.excO C hp.objs.size) := by heap_get
  have I2 : Inv X pins σ (upd H1 (hp.objs.size + 1) (exo (hp.objs.size + 1) C none)) ⟨(hp.push (PySem.W.kdv_tup [u])).push (PySem.HandSPX.excO C hp.objs.size), g, dr, tk, os⟩ := I1.laid (t' := tk) kk hsz (exo_ok hget)
  have r2 : Vals [V.ref (hp.objs.size + 1), v] [Value.ref (hp.objs.size + 1), u] := .cons rfl (.cons r1 .nil)
  have hq : spInit X.K B Bn newId f [.ref (hp.objs.size + 1), v] (upd H1 (hp.objs.size + 1) (exo (hp.objs.size + 1) C none)) (fun z H2 => z = .non ∧ ∃ d, H1 d = none ∧ d ≠ hp.objs.size + 1 ∧ H2 = upd (upd H1 d (exd d [(f, v)])) (hp.objs.size + 1) (exo (hp.objs.size + 1) C (some d))) E0 := by
    refine ⟨_, C, v, rfl, T, upd_same, fun d hd hne => ⟨rfl, d, by rw [upd_ne hne] at hd; exact hd, hne, ?_⟩⟩
    funext b
    by_cases hb : b = hp.objs.size + 1
    · rw [hb, upd_same, upd_same]
    · rw [upd_ne hb, upd_ne hb]
      by_cases hbd : b = d
      · rw [hbd, upd_same, upd_same]
      · rw [upd_ne hbd, upd_ne hbd, upd_ne hb]
  have hl : ([Value.ref (hp.objs.size + 1), u] ++ []).length = ps.length := by have z := F1.len _ _ _ _ hq; exact z
  refine wpAny_call (call_ex FB t1 (I1.kIn _ _ hC) (PySem.W.looks_findIn I1.kIn iC) (fun self => PySem.W.bind_fn I1.kIn self tI) (by show 1 ≤ sizeLine; rw [sizeLine_eq]; omega)
    (codeAny_mono (F1.run _ X.stack _ _ ⟨[Value.ref (hp.objs.size + 1), u], []⟩ [Value.ref (hp.objs.size + 1), u] _ _ (fun _ _ _ => False) (hr.make C [u] []) (I2.env0.make C [u] []) (by simpa using hb _ [Value.ref (hp.objs.size + 1), u] I2.kIn hl) r2 hq) fun r s' hq' => ?_))
  cases r with
  | error er => exact hq'.elim
  | ok fl =>
    cases fl with
    | ret w =>
      obtain ⟨z, H2, os2, bare2, un2, hok2, rz, ez, d, hd, hne, eH⟩ := hq'
      subst ez eH
      exact ⟨rz, ⟨.ref (hp.objs.size + 1), _, I2.call' (ch := []) os2 un2 hok2 bare2 (fun b z => absurd z (by simp)), rfl, q1 _ d hn hd hne⟩⟩
    | next => exact False.elim hq'
    | brk => exact False.elim hq'
    | cont => exact False.elim hq'
end K0
/-! repr of a list of kept values; defs that run where no repr is under way; a text times a number; a power of a great number. -/
namespace K0
open PySem PySem.Spec PyProof.Rows L2

/-- texts that are kept: few signs, each a sign -/
def Few (x : PySem.Str) : Prop := x.length ≤ 600 ∧ ∀ c ∈ x.cps.toList, c < 16 ^ 8
/-- a value that an error may keep, and how it reads -/
inductive Kp (H : Hp) : V → PyData → Prop
  | non : Kp H .non .none
  | bl (b : Bool) : Kp H (.bl b) (.bool b)
  | int (i : Int) (h : i.natAbs.log2 < 90) : Kp H (.int i) (.int i)
  | str (x : PySem.Str) (h : Few x) : Kp H (.str x) (.str x)
  | tup {a : Addr} {n : Int} {x : PySem.Str} (e : H a = some (.tup [.int n, .str x])) (h : n.natAbs.log2 < 90) (hx : Few x) : Kp H (.ref a) (.tuple [.int n, .str x])
  | lst {a : Addr} {n : Int} (e : H a = some (.lst [.int n])) (h : n.natAbs.log2 < 90) : Kp H (.ref a) (.list [.int n])
  | dic {a : Addr} {n : Int} {x : PySem.Str} (e : H a = some (.dK [(Sum.inl n, .str x)])) (h : n.natAbs.log2 < 90) (hx : Few x) : Kp H (.ref a) (.dict [(.int n, .str x)])
theorem Kp.same {H H' : Hp} {v : V} {d : PyData} (h : Kp H v d) (s : Same H H') : Kp H' v d := by
  cases h with
  | non => exact .non
  | bl b => exact .bl b
  | int i h => exact .int i h
  | str x h => exact .str x h
  | tup e h hx => exact .tup (s _ _ e) h hx
  | lst e h => exact .lst (s _ _ e) h
  | dic e h hx => exact .dic (s _ _ e) h hx
theorem short_int {i : Int} (h : i.natAbs.log2 < 90) : (PyData.shown (.int i)).length ≤ 91 := by
  have z := int_text_length_le (by decide) h
  show (PySem.Str.ofString (toString i)).length ≤ 91
  rw [PySem.ofString_length]
  omega
theorem leaf_str {x : PySem.Str} (h : Few x) : (x.cps.toList.all fun c => decide (c < 16 ^ 8)) = true := List.all_eq_true.mpr fun c hc => decide_eq_true (h.2 c hc)
theorem int_weight {i : Int} (h : i.natAbs.log2 < 90) : (PyData.int i).weight ≤ 90 := by
  show (if i == 0 then 0 else i.natAbs.log2 + 1) ≤ 90
  split <;> omega
theorem str_weight {x : PySem.Str} (h : Few x) : (PyData.str x).weight ≤ 600 := h.1
theorem Kp.facts {H : Hp} {v : V} {d : PyData} (h : Kp H v d) : d.showable = true ∧ d.leavesShort 91 = true ∧ d.weight ≤ 700 ∧ d.depth ≤ 3 := by
  have sh : ∀ {i : Int}, i.natAbs.log2 < 90 → (PyData.int i).showable = true := fun {i} h => by simp only [PyData.showable]; exact decide_eq_true (by omega)
  have sl : ∀ {i : Int}, i.natAbs.log2 < 90 → (PyData.int i).leavesShort 91 = true := fun {i} h => by simp only [PyData.leavesShort]; exact decide_eq_true (short_int h)
  have ss : ∀ {x : PySem.Str}, Few x → (PyData.str x).leavesShort 91 = true := fun {x} h => by simp only [PyData.leavesShort]; exact leaf_str h
  have sv : ∀ {x : PySem.Str}, (PyData.str x).showable = true := fun {x} => by simp only [PyData.showable]
  cases h with
  | non => exact ⟨rfl, by decide +kernel, by decide +kernel, by decide +kernel⟩
  | bl b => cases b <;> exact ⟨rfl, by decide +kernel, by decide +kernel, by decide +kernel⟩
  | int i h => exact ⟨sh h, sl h, Nat.le_trans (int_weight h) (by decide), by simp [PyData.depth]⟩
  | str x h => exact ⟨sv, ss h, Nat.le_trans (str_weight h) (by decide), by simp [PyData.depth]⟩
  | @tup a n x e h hx =>
    have w1 := int_weight h; have w2 := str_weight hx
    refine ⟨by simp only [PyData.showable, PyData.showableAll, Bool.and_true]; exact decide_eq_true (by omega), ?_, ?_, by simp [PyData.depth, PyData.depthAll]⟩
    · have a1 := sl h; have a2 := ss hx
      simp only [PyData.leavesShort, PyData.leavesShortAll, Bool.and_true] at a1 a2 ⊢
      rw [a1, a2] <;> rfl
    · show (PyData.int n).weight + 1 + ((PyData.str x).weight + 1 + 0) ≤ 700
      omega
  | @lst a n e h =>
    have w1 := int_weight h
    refine ⟨by simp only [PyData.showable, PyData.showableAll, Bool.and_true]; exact decide_eq_true (by omega), ?_, ?_, by simp [PyData.depth, PyData.depthAll]⟩
    · have a1 := sl h
      simp only [PyData.leavesShort, PyData.leavesShortAll, Bool.and_true] at a1 ⊢
      exact a1
    · show (PyData.int n).weight + 1 + 0 ≤ 700
      omega
  | @dic a n x e h hx =>
    have w1 := int_weight h; have w2 := str_weight hx
    refine ⟨by simp only [PyData.showable, PyData.showableKv, Bool.and_true]; exact decide_eq_true (by omega), ?_, ?_, by simp [PyData.depth, PyData.depthKv]⟩
    · have a1 := sl h; have a2 := ss hx
      simp only [PyData.leavesShort, PyData.leavesShortKv, Bool.and_true] at a1 a2 ⊢
      rw [a1, a2] <;> rfl
    · show (PyData.int n).weight + (PyData.str x).weight + 2 + 0 ≤ 700
      omega
inductive KpAll (H : Hp) : List V → List PyData → Prop
  | nil : KpAll H [] []
  | cons {v : V} {vs : List V} {d : PyData} {ds : List PyData} : Kp H v d → KpAll H vs ds → KpAll H (v :: vs) (d :: ds)
theorem KpAll.facts {H : Hp} : ∀ {vs : List V} {ds : List PyData}, KpAll H vs ds → PyData.showableAll ds = true ∧ PyData.leavesShortAll 91 ds = true ∧ PyData.weightAll ds ≤ 701 * ds.length ∧ PyData.depthAll ds ≤ 3
  | _, _, .nil => ⟨rfl, rfl, by simp [PyData.weightAll], by simp [PyData.depthAll]⟩
  | _, _, .cons h t => by
    obtain ⟨a1, a2, a3, a4⟩ := h.facts
    obtain ⟨b1, b2, b3, b4⟩ := t.facts
    refine ⟨by simp [PyData.showableAll, a1, b1], by simp [PyData.leavesShortAll, a2, b2], ?_, ?_⟩
    · simp only [PyData.weightAll, List.length_cons]; omega
    · simp only [PyData.depthAll]; omega
section
variable {X : Cx} {pins : List (Addr × Obj)} {σ : L2.St} {H : Hp} {s : Shared}
theorem Kp.reads (I : Inv X pins σ H s) {v : V} {u : Value} {d : PyData} (h : Kp H v d) (r : RelV v u) : ∃ as, Reads s.heap u d as ∧ (d.hasDict = true → sysModules ∉ as) := by
  cases h with
  | non => cases r; exact ⟨_, .none, fun _ => by simp⟩
  | bl b => cases r; exact ⟨_, .bool b, fun _ => by simp⟩
  | int i h => obtain ⟨t, rfl⟩ := r; exact ⟨_, .int i t, fun _ => by simp⟩
  | str x h => obtain ⟨t, rfl⟩ := r; exact ⟨_, .str x t, fun _ => by simp⟩
  | tup e h hx =>
    cases r
    obtain ⟨its, rv, ⟨o, ho, hc, n, hd⟩, _⟩ := I.tuple (SqT.of e)
    cases rv with
    | cons r1 t1 => cases t1 with
      | cons r2 t2 =>
        cases t2
        obtain ⟨t, rfl⟩ := r1; obtain ⟨t', rfl⟩ := r2
        exact ⟨_, .tuple ho hc hd (.cons (.int _ t) (.cons (.str _ t') .nil)), fun _ => by simp⟩
  | lst e h =>
    cases r
    obtain ⟨its, rv, ⟨o, n, ho, hc, _, hd⟩, _⟩ := I.list (SqL.of e)
    cases rv with
    | cons r1 t1 =>
      cases t1
      obtain ⟨t, rfl⟩ := r1
      exact ⟨_, .list ho hc hd (.cons (.int _ t) .nil), PyData.noDict_hsm (by simp [PyData.hasDict, PyData.hasDictAll])⟩
  | dic e h hx =>
    cases r
    obtain ⟨_, hs, vs, kv, o, es, ep, ho, hx2, hd, _, hp, _⟩ := (show ObjOk X.prog X.w H s.heap _ (.dK _) from I.hok _ _ e)
    cases kv with
    | @cons _ q _ _ hkv t1 =>
      cases t1
      obtain ⟨hk, hv⟩ := hkv
      obtain ⟨k0, v0⟩ := q
      dsimp only at hk hv
      subst hk
      obtain ⟨t', rfl⟩ := hv
      obtain ⟨es⟩ := es
      cases hp with
      | @cons en _ _ _ h1 h2 h3 =>
        cases h3
        obtain ⟨t, et⟩ := Value.isInt_shape (k := _) (v := en.key) h1
        have ev : en.val = Value.str _ t' := h2
        refine ⟨_, Reads.dict (as := [] ++ []) (bs := [] ++ []) ho hx2.1 hd ?_ ?_, fun _ => by simpa using (beq_eq_false_iff_ne.mp hs).symm⟩
        · show ReadsAll _ [en.key] _ _
          rw [et]
          exact .cons (.int _ t) .nil
        · show ReadsAll _ [en.val] _ _
          rw [ev]
          exact .cons (.str _ t') .nil
theorem Kp.fits {H : Hp} {v : V} {d : PyData} (h : Kp H v d) : d.shown.length ≤ 70000 := by
  obtain ⟨_, f2, f3, _⟩ := h.facts
  have z := PyData.shown_le 91 (by decide) d f2
  have : (91 + 2) * d.weight ≤ (91 + 2) * 700 := Nat.mul_le_mul_left _ f3
  omega
/-- the items' texts -/
theorem KpAll.reads {prog : Program} {w : World} (I : Inv X pins σ H s) : ∀ {vs : List V} {ds : List PyData} {us : List Value}, KpAll H vs ds → Vals vs us →
    ∃ as bs, ReadsAll s.heap us ds as ∧ ReadAtMost s.heap (PyData.depthAll ds) bs ∧ ReprAllK prog w bs s.heap (PyData.depthAll ds) us (PyData.shownAll ds)
  | _, _, _, .nil, .nil => ⟨_, [], .nil, (fun _ h => nomatch h), by simp only [PyData.shownAll]; exact .nil⟩
  | _, _, _, .cons (d := d) (ds := ds) h t, .cons r1 r2 => by
    obtain ⟨as, q1, n1⟩ := h.reads I r1
    obtain ⟨cs, b2, q2, hb2, k2⟩ := KpAll.reads (prog := prog) (w := w) I t r2
    obtain ⟨b1, hb1, k1⟩ := ReprK.of_reads (prog := prog) (w := w) q1 h.facts.1 n1 (by have z := h.fits; rw [sizeLine_eq]; omega)
    refine ⟨_, b1 ++ b2, .cons q1 q2, fun b hm => ?_, ?_⟩
    · simp only [PyData.depthAll]
      rcases List.mem_append.mp hm with hm | hm
      · obtain ⟨d', as', r', hd'⟩ := hb1 b hm; exact ⟨d', as', r', Nat.le_trans hd' (Nat.le_max_left _ _)⟩
      · obtain ⟨d', as', r', hd'⟩ := hb2 b hm; exact ⟨d', as', r', Nat.le_trans hd' (Nat.le_max_right _ _)⟩
    · simp only [PyData.depthAll, PyData.shownAll]
      exact .cons ((k1.more fun b hb => List.mem_append_left _ hb).level_le (Nat.le_max_left _ _)) (k2.more_le (fun b hb => List.mem_append_right _ hb) (Nat.le_max_right _ _))
end
def rRepr : List V → Hp → VK → Prop := fun xs H Q => ∃ (l : Addr) (v : V) (vs : List V) (ds : List PyData), xs = [.ref l] ∧ H l = some (.lst (v :: vs)) ∧ KpAll H (v :: vs) ds ∧ ds.length ≤ 100 ∧ Q (.str (PyData.list ds).shown) H
theorem call_repr {X : Cx} {k : Nat} (hg : X.A.guards = some []) (hr : Room k X.A) : CallR X (.builtin "repr") rRepr := by
  intro pins s σ H xs us Q I r h
  obtain ⟨l, v, vs, ds, rfl, hl, hk, hz, q⟩ := h
  obtain ⟨u, rfl, ru⟩ := vals1 r
  obtain rfl : u = Value.ref l := ru
  obtain ⟨its, rv, ⟨o, n, ho, hc, _, hd⟩, _⟩ := I.list (SqL.of hl)
  obtain ⟨as, bs, hr', hb, hkk⟩ := hk.reads (prog := X.prog) (w := X.w) I rv
  obtain ⟨f1, f2, f3, f4⟩ := hk.facts
  have hu := hr.units
  have hsz : (PyData.list ds).shown.length ≤ sizeLine := by
    have z := PyData.shown_le 91 (by decide) (.list ds) (by simpa [PyData.leavesShort] using f2)
    have w1 : (PyData.list ds).weight ≤ 701 * ds.length := by simp only [PyData.weight]; omega
    rw [sizeLine_eq]
    have : (91 + 2) * (PyData.list ds).weight ≤ (91 + 2) * 70100 := Nat.mul_le_mul_left _ (by omega)
    omega
  have hsz' : (listText (PyData.shownAll ds)).length ≤ sizeLine := by simpa only [PyData.shown] using hsz
  have rr : Reads s.heap (.ref l) (.list ds) _ := Reads.list ho hc hd hr'
  have hna : l ∉ bs := not_mem_of_deeper rr (by simp only [PyData.depth]; omega) hb
  cases rv with
  | cons r1 r2 =>
    have hlen := hkk.length_eq
    refine call_repr_slot (by omega) (⟨o, ho, hc⟩ : s.TypeIs (.ref l) "list") F.slot_list_repr.toG (call_list_reprK (h₀ := s.heap) ho hc hd hna (by simpa using hlen) (fun i y e => hkk.item i y (by simpa using e)) (A := X.A.in1) hg (fun b _ => Clear.nil b)
      (by show X.A.units + 1 + (PyData.depthAll ds + 1) < cLine; omega) (fun _ _ e => e) (fun h' u tk hk' => ⟨_, _, rfl, .str (PyData.list ds).shown, H, I.kept (t' := tk) hk', ⟨u, ?_⟩, q⟩) hsz')
    simp only [PyData.shown]

/-! ### a def that is called where no repr is under way -/
structure FnG (P : Program) (w : World) (K : PySem.W.Frag) (mg : PySem.Str → Option Value) (base : Heap) (k : Nat) (f : Addr) (fd : FuncData) (ps : List PySem.Str) (sp : Sp) : Prop where
  len : ∀ vs H Q E, sp vs H Q E → vs.length = ps.length
  run : ∀ (A : Around) (outer : List Env) (s : Shared) (H : Hp) (args : Args) (us : List Value) (vs : List V) (Q : VK) (E : XK), A.guards = some [] → Room k A → Env0 P w K mg base A outer s H → BindsTo s fd args (ps.zip us) → Vals vs us → sp vs H Q E →
    codeAny (model P w) A (.call (.ref f) args) (CR CX0 outer P w H s Q E) s
theorem fng_of {P : Program} {w : World} {K : PySem.W.Frag} {mg : PySem.Str → Option Value} {base : Heap} {k : Nat} {f : Addr} {x qual : PySem.Str} {st : Stmt} {fd : FuncData} {N ps : List PySem.Str} {sp : Sp} (F : Fun K x qual st f fd) (S : FnScope N ps (defScope st)) (len : ∀ vs H Q E, sp vs H Q E → vs.length = ps.length)
    (hbody : ∀ (cdv : Value) (A : Around) (outer : List Env) (s : Shared) (H : Hp) (vs : List V) (Q : VK) (E : XK), A.guards = some [] → Room k (A.deeper (envOfC qual (defScope st) s.heap.objs.size f cdv)) → sp vs H Q E →
      ∃ t, PSs (cxOf CX0 P w K mg base N qual (defScope st) f cdv A outer s H E).nox (defBody st) t ∧ t { nx := fun _ H' => Q .non H', rt := Q } (start N vs) H) : FnG P w K mg base (k + 1) f fd ps sp := by
  obtain ⟨oc, od, kV, doc, pm, an, cdv, ct, osl, rfl, lk, hcd⟩ := F.ex
  refine ⟨len, fun A outer s H args us vs Q E hg hr e0 hb r hsp => ?_⟩
  have hl := len _ _ _ _ hsp
  have KX : K.In s.heap := e0.mod.kin.keeps fun b o e => (e0.bs b o e).1
  have lim : s.heap.NoLimit := e0.mod.nolimit.keeps fun b o e => (e0.bs b o e).1
  have hkind : ∀ y ∈ ps.zip us, (defScope st).names.lookup y.1 = some .local ∨ ((defScope st).names.lookup y.1 = some .cell ∧ ((cellsFrom (s.heap.objs.size + 1) (defScope st).names []).lookup y.1).isSome = true) := fun ⟨n, v⟩ hy => by
    rcases S.par n (List.of_mem_zip hy).1 with q | q
    · exact .inl q
    · exact .inr ⟨q, PySem.W.cellsFrom_some _ _ _ (.inl q)⟩
  refine codeAny_call_function hr.depth (KX _ _ lk) rfl S.co S.gen rfl (PySem.W.codeRec_of KX hcd) (hb _ _ _ _ ?_)
  refine wpAny_newFunctionEnv_cells S.kind hkind fun env he s1 x => ?_
  subst he
  refine ⟨lim.keeps x.toInCall.keep, codeAny_func ?_⟩
  obtain ⟨t, ht0, hq⟩ := hbody cdv A outer s H vs Q E hg (hr.deeper _) hsp
  have ht := ht0.nox
  have I : Inv (cxOf CX0 P w K mg base N qual (defScope st) f cdv A outer s H E) [] (start N vs) H s1 := inv_start S hr.hd e0 hl r x
  refine wpAny_mono (ht.run [] s1 (start N vs) H _ I hq) (fun fl s' hs => ?_) fun e s' hs => hs
  have fin : ∀ {σ' : L2.St} {H' : Hp} {v : V} {u : Value}, Inv (cxOf CX0 P w K mg base N qual (defScope st) f cdv A outer s H E) [] σ' H' s' → RelV v u → Q v H' → CE outer P w H s Q u s' := fun {σ' H' v u} J rv q => ⟨v, H', J.os, J.bare, J.base, J.hok, rv, q⟩
  cases fl with
  | ret u => obtain ⟨v, σ', H', J, rv, q⟩ := hs; exact fin J rv q
  | next => obtain ⟨σ', H', J, q⟩ := hs; exact fin (v := V.non) (u := Value.none) J rfl q
  | brk => obtain ⟨_, _, _, q⟩ := hs; exact False.elim q
  | cont => obtain ⟨_, _, _, q⟩ := hs; exact False.elim q
/-- f(e, ..) of such a def -/
theorem pe_callG {X : Cx} {x : PySem.Str} {f : Addr} {k : Nat} {fd : FuncData} {ps : List PySem.Str} {sp : Sp} {e : Expr} {es : List Expr} {t : TA} {p pos : Pos} (F : FnG X.prog X.w X.K X.mg X.base k f fd ps sp) (hgd : X.A.guards = some []) (hr : Room k X.A) (hg : Gl X x) (hm : X.mg x = some (.ref f)) (hk : PySem.W.keepIn X.K (.ref f) = true) (hb : Binds X.K fd ps [])
    (ha : PA X (e :: es) t) (hdb : (x == ("__debug__" : PySem.Str)) = false := by decide) (he : starEach (e :: es) X.env = (false, eval e X.env) :: starEach es X.env := by rfl) (hpl : (backTo pos (starEach es X.env)).any (·.1) = false := by rfl) :
    PE X (.Call (.Name x p) (e :: es) [] pos) (fun σ H Q => t σ H fun vs H1 => sp vs H1 Q E0) := by
  refine ⟨fun pins s σ H Q I h => ?_⟩
  refine wpAny_Call_Name_kw (ld_glob I hg hm ?_ hdb)
  refine PySem.W.callWith_K (h₀ := X.base) I.ok.mod.kin hk (thn (ha.run pos pins s σ H _ I h) fun us s1 ⟨vs, H1, I1, r, q⟩ => ⟨I1.kIn, ?_⟩) he hpl
  have hl : us.length = ps.length := by rw [← r.length]; exact F.len _ _ _ _ q
  refine wpAny_call (codeAny_mono (F.run X.A X.stack s1 H1 ⟨us, []⟩ us vs Q E0 hgd hr I1.env0 (by simpa using hb s1 us I1.kIn (by simpa using hl)) r q) fun r s' hq => ?_)
  cases r with
  | error e => exact hq.elim
  | ok fl =>
    cases fl with
    | ret u => exact I1.after hq
    | next => exact False.elim hq
    | brk => exact False.elim hq
    | cont => exact False.elim hq

/-! ### numbers -/
section
variable {X : Cx}
theorem op_powX : OpR X (binaryOp .Pow) (rI (fun i j => 0 ≤ j ∧ (Builtin.Int.intBits i : Int) * j ≤ 2 ^ 27) fun i j => .int (i ^ j.toNat)) := opI fun _ _ _ _ _ _ _ hc q => pow_int hc.1 hc.2 q
/-- a text of one sign or more, a number of times -/
def rTimes : R2 := fun x y H Q => ∃ (z : PySem.Str) (n : Int), x = .str z ∧ y = .int n ∧ 0 ≤ n ∧ n ≤ 1000 ∧ z.length ≤ 1000 ∧ ∀ o : PySem.Str, o.length ≤ z.length * n.toNat → (∀ c ∈ o.cps.toList, c ∈ z.cps.toList) → Q (.str o) H
theorem foldl_rep (z : Array Nat) : ∀ (n : Nat) (acc : Array Nat), ((List.replicate n z).foldl (· ++ ·) acc).size = acc.size + n * z.size ∧ ∀ c ∈ ((List.replicate n z).foldl (· ++ ·) acc).toList, c ∈ acc.toList ∨ c ∈ z.toList
  | 0, acc => ⟨by simp, fun c h => .inl (by simpa using h)⟩
  | n + 1, acc => by
    obtain ⟨h1, h2⟩ := foldl_rep z n (acc ++ z)
    rw [List.replicate_succ, List.foldl_cons]
    refine ⟨by rw [h1, Array.size_append, Nat.succ_mul]; omega, fun c h => ?_⟩
    rcases h2 c h with q | q
    · rw [Array.toList_append, List.mem_append] at q; exact q
    · exact .inr q
theorem op_times : OpR X (binaryOp .Mult) rTimes := by
  intro pins s σ H x y v u Q I rx ry h
  obtain ⟨z, n, rfl, rfl, h0, h1, hz, q⟩ := h
  obtain ⟨t, rfl⟩ := rx
  obtain ⟨t', rfl⟩ := ry
  have hmul : z.length * n.toNat ≤ 1000 * 1000 := Nat.mul_le_mul hz (by omega)
  refine PySem.P.mul_str (by rw [decide_eq_false (by omega), decide_eq_false (by omega)] <;> rfl) (fun a b => ?_) (fun a b => ?_) ?_
  · have : (1000 : Int) ≤ (2 ^ 63 - 1) / n := by
      rw [Int.le_ediv_iff_mul_le (by omega)]
      have : 1000 * n ≤ 1000 * 1000 := by omega
      omega
    omega
  · refine decide_eq_false ?_
    rw [sizeLine_eq]; omega
  · split
    · rename_i hlt
      refine ⟨by decide, ?_⟩
      exact ⟨.str PySem.Str.empty, H, I.tok _, ⟨_, rfl⟩, q _ (Nat.zero_le _) (fun c hc => by cases hc)⟩
    · split
      · rename_i hge heq
        refine ⟨.str z, H, I, ⟨_, rfl⟩, q _ ?_ (fun c hc => hc)⟩
        rcases Nat.lt_or_ge 0 n.toNat with hp | hp
        · exact Nat.le_mul_of_pos_right _ hp
        · omega
      · obtain ⟨f1, f2⟩ := foldl_rep z.cps n.toNat #[]
        refine ⟨?_, ?_⟩
        · show ((List.replicate n.toNat z.cps).foldl (· ++ ·) #[]).size ≤ sizeLine
          rw [f1, sizeLine_eq]
          have : n.toNat * z.cps.size ≤ 1000 * 1000 := Nat.mul_le_mul (by omega) hz
          simp; omega
        · refine ⟨.str _, H, I.tok _, ⟨_, rfl⟩, q _ ?_ (fun c hc => ?_)⟩
          · show ((List.replicate n.toNat z.cps).foldl (· ++ ·) #[]).size ≤ z.cps.size * n.toNat
            rw [f1, Nat.mul_comm]; simp
          · rcases f2 c hc with e | e
            · cases e
            · exact e
end
end K0
/-! The dice, and what is drawn by them. -/
namespace K0
open PySem PySem.Spec PyProof.Rows L2

def top (i : Nat) : Stmt := PySem.Challenge.pw_letterrules_k00_errors.main.body.getD i (.Pass ⟨0, 0, 0, 0⟩)
abbrev sDice : Stmt := top 19
abbrev sPull : Stmt := top 20
abbrev sPick : Stmt := top 21
abbrev sValue : Stmt := top 22

/-- dice at p: three numbers -/
structure Dice (H : Hp) (p : Addr) (x y z : Int) : Prop where
  at_ : H p = some (.lst [.int x, .int y, .int z])
  x0 : 0 ≤ x
  x1 : x.natAbs < 2 ^ 2400
  y0 : 0 ≤ y
  y1 : y < 2147483648
  z0 : 0 ≤ z
def spDice (K : PySem.W.Frag) : Sp := fun vs H Q _ => ∃ (a : Addr) (ns : List Int) (i : Int), vs = [.ref a, .int i] ∧ SqL K H a (ns.map V.int) ∧ ns.length ≤ 1000 ∧ 0 ≤ i ∧ ∀ (p : Addr) (x y : Int) (H' : Hp), Same H H' → H p = none → Dice H' p x y 0 → Q (.ref p) H'
def spPull : Sp := fun vs H Q _ => ∃ (p : Addr) (x y z n : Int), vs = [.ref p, .int n] ∧ Dice H p x y z ∧ 0 < n ∧ n < 1000000 ∧
  ∀ (r x' z' : Int) (H' : Hp), 0 ≤ r → r < n → Dice H' p x' y z' → z' ≤ z + 1 → (∀ b o, b ≠ p → H b = some o → H' b = some o) → Q (.int r) H'
def spPick : Sp := fun vs H Q _ => ∃ (p q : Addr) (x y z : Int) (xs : List V), vs = [.ref p, .ref q] ∧ Dice H p x y z ∧ p ≠ q ∧ H q = some (.lst xs) ∧ 0 < xs.length ∧ xs.length < 1000 ∧
  ∀ (j : Nat) (v : V) (x' z' : Int) (H' : Hp), xs[j]? = some v → Dice H' p x' y z' → z' ≤ z + 1 → (∀ b o, b ≠ p → H b = some o → H' b = some o) → Q v H'
def spValue : Sp := fun vs H Q _ => ∃ (p : Addr) (x y z : Int), vs = [.ref p] ∧ Dice H p x y z ∧
  ∀ (v : V) (d : PyData) (x' z' : Int) (H' : Hp), Kp H' v d → Dice H' p x' y z' → z' ≤ z + 2 → (∀ b o, b ≠ p → H b = some o → H' b = some o) → Q v H'

/-- built-in names that the top leaves alone -/
structure Bare (mg : PySem.Str → Option Value) : Prop where
  int : mg "int" = none
  abs : mg "abs" = none
  max : mg "max" = none
  min : mg "min" = none
  len : mg "len" = none
  rng : mg "range" = none
  rep : mg "repr" = none
  isi : mg "isinstance" = none

section
variable {P : Program} {w : World} {K : PySem.W.Frag} {mg : PySem.Str → Option Value} {base : Heap}
theorem scDice : FnScope ["_law_script", "_law_at", "_law_cell", "_law_great", "_law_mixed"] ["_law_script", "_law_at"] (defScope sDice) := ⟨rfl, rfl, rfl, by decide +kernel, rfl, by decide +kernel, by decide +kernel⟩
theorem big_pos : (0 : Int) < ((10 : Int) ^ (60 : Int).toNat) ^ (12 : Int).toNat := by decide +kernel
theorem big_lt : (((10 : Int) ^ (60 : Int).toNat) ^ (12 : Int).toNat).natAbs < 2 ^ 2400 := by decide +kernel
theorem big_bits : (Builtin.Int.intBits ((10 : Int) ^ (60 : Int).toNat) : Int) * 12 ≤ 2 ^ 27 := by decide +kernel
theorem dice_made {H : Hp} {p : Addr} {c m : Int} (h : H p = some (.lst [.int (if (if c < 0 then -c else c) % ((10 : Int) ^ (60 : Int).toNat) ^ (12 : Int).toNat - (10 : Int) ^ (18 : Int).toNat > 0 then (if c < 0 then -c else c) % ((10 : Int) ^ (60 : Int).toNat) ^ (12 : Int).toNat - (10 : Int) ^ (18 : Int).toNat else 0), .int (m % 2147483489), .int 0])) :
    Dice H p (if (if c < 0 then -c else c) % ((10 : Int) ^ (60 : Int).toNat) ^ (12 : Int).toNat - (10 : Int) ^ (18 : Int).toNat > 0 then (if c < 0 then -c else c) % ((10 : Int) ^ (60 : Int).toNat) ^ (12 : Int).toNat - (10 : Int) ^ (18 : Int).toNat else 0) (m % 2147483489) 0 := by
  have h1 := Int.emod_nonneg (if c < 0 then -c else c) (Int.ne_of_gt big_pos)
  have h2 := Int.emod_lt_of_pos (if c < 0 then -c else c) big_pos
  have h3 := big_lt
  have h6 : (0 : Int) ≤ (10 : Int) ^ (18 : Int).toNat := by decide
  generalize (if c < 0 then -c else c) % ((10 : Int) ^ (60 : Int).toNat) ^ (12 : Int).toNat = g at h1 h2 h ⊢
  generalize ((10 : Int) ^ (60 : Int).toNat) ^ (12 : Int).toNat = n at h2 h3
  generalize (10 : Int) ^ (18 : Int).toNat = t at h6 h ⊢
  have h4 : g.natAbs < 2 ^ 2400 := Nat.lt_of_le_of_lt (by omega) h3
  refine ⟨h, ?_, ?_, Int.emod_nonneg _ (by decide), Int.lt_trans (Int.emod_lt_of_pos m (show (0 : Int) < 2147483489 by decide)) (by decide), Int.le_refl _⟩
  · split <;> omega
  · split
    · exact Nat.lt_of_le_of_lt (by omega) h4
    · show 0 < 2 ^ 2400
      exact Nat.pow_pos (by decide)
theorem ok_dice {f : Addr} {fd : FuncData} (F : Fun K "_law_dice" "_law_dice" sDice f fd) (T : Bare mg) : FnOk P w K mg base CX0 1 f fd ["_law_script", "_law_at"] (spDice K) := by
  refine F.ok scDice (fun vs H Q E h => ?_) (fun cdv A outer s H vs Q E hr h => ?_)
  · obtain ⟨a, ns, i, rfl, _⟩ := h
    rfl
  · obtain ⟨a, ns, i, rfl, hS, hlen, hi, k⟩ := h
    refine ⟨_, pss_cons (ps_set (i := 2) scDice.nd rfl (Or.inl rfl) (pe_op op_add (pe_op op_mul pe_int (pv 1)) pe_int))
      (pss_cons (ps_if (pt_cmpR op_lt (pv 1) (pe_callB call_len_seq (by rfl) T.len PySem.boot_len (pa_cons (pv 0) pa_nil)) (nomark _)) (pss_one (ps_set (i := 2) scDice.nd rfl (Or.inl rfl) (pe_ix ix_list (pv 0) (pv 1) (fun _ _ => rfl)))) pss_nil)
      (pss_cons (ps_set (i := 3) scDice.nd rfl (Or.inl rfl) (pe_op op_mod (pe_callTy call_int1 (by rfl) T.int (by decide +kernel) (pa_cons (pe_callB call_abs (by rfl) T.abs (by decide +kernel) (pa_cons (pv 2) pa_nil)) pa_nil)) (pe_op op_powX (pe_op op_pow pe_int pe_int) pe_int)))
      (pss_cons (ps_set (i := 4) scDice.nd rfl (Or.inl rfl) (pe_op op_add (pe_op op_add (pe_op op_add (pe_op op_mul (pe_op op_mod (pe_callTy call_int1 (by rfl) T.int (by decide +kernel) (pa_cons (pv 3) pa_nil)) pe_int) pe_int) (pe_op op_mul pe_int (pv 1)))
          (pe_op op_mul pe_int (pe_callTy call_int1 (by rfl) T.int (by decide +kernel) (pa_cons (pe_cmpR op_lt (pv 2) pe_int (nomark _)) pa_nil)))) pe_int))
      (pss_one (ps_ret (pe_lst (pa_cons (pe_callB (call_max2 rfl) (by rfl) T.max (by decide +kernel) (pa_cons pe_int (pa_cons (pe_op op_sub (pv 3) (pe_op op_pow pe_int pe_int)) pa_nil)))
          (pa_cons (pe_op op_mod (pe_callTy call_int1 (by rfl) T.int (by decide +kernel) (pa_cons (pv 4) pa_nil)) pe_int) (pa_cons pe_int pa_nil))))))))), ?_⟩
    refine ⟨_, rfl, _, _, rfl, rfl, .inl ⟨by decide, by decide⟩, _, _, rfl, rfl, _, rfl, _, rfl, a, _, rfl, .inl hS, _, _, rfl, rfl, _, rfl, ?_⟩
    refine ite2 (fun hlt => ?ya) (fun _ => ?na)
    case' ya =>
      have hlt' := of_decide_eq_true hlt
      rw [List.length_map] at hlt'
      obtain ⟨j, rfl⟩ : ∃ j : Nat, i = (j : Int) := ⟨i.toNat, by omega⟩
      have hj : j < ns.length := by omega
      refine ⟨_, rfl, _, rfl, a, _, _, .int ns[j], rfl, rfl, hS, at_of rfl (by rw [List.getElem?_map, List.getElem?_eq_getElem hj] <;> rfl), ?_⟩
    all_goals
      refine ⟨_, rfl, _, rfl, .inl ⟨_, rfl, _, _, rfl, rfl, ⟨by decide, by decide, by decide⟩, _, _, rfl, rfl, ⟨by decide, big_bits⟩, _, _, rfl, rfl, big_pos, ?_⟩⟩
      refine ⟨_, rfl, .inl ⟨_, rfl, _, _, rfl, rfl, (by show (0 : Int) < 2147483543; decide), _, _, rfl, rfl, .inr ⟨by decide, by decide⟩, _, rfl, _, _, rfl, rfl, .inl ⟨by decide, by decide⟩, _, _, rfl, rfl, _, rfl, _, _, rfl, rfl, .inr ⟨_, rfl, _, _, rfl, rfl, .inl ⟨by decide, by decide⟩, _, _, rfl, rfl, _, _, rfl, rfl, ?_⟩⟩⟩
      refine ⟨_, rfl, _, _, rfl, rfl, ⟨by decide, by decide, by decide⟩, _, _, rfl, rfl, _, _, rfl, _, rfl, .inl ⟨_, rfl, _, _, rfl, rfl, (by show (0 : Int) < 2147483489; decide), (by show 3 ≤ sizeLine; decide), fun p hp => ?_⟩⟩
      refine k p _ _ _ (fun b o e => by rw [upd_ne (ne_of_none e hp)] <;> exact e) hp (dice_made upd_same)
theorem scPull : FnScope ["_law_dice_here", "_law_total", "_law_found", "_law_one", "_law_two"] ["_law_dice_here", "_law_total"] (defScope sPull) := ⟨rfl, rfl, rfl, by decide +kernel, rfl, by decide +kernel, by decide +kernel⟩
theorem ok_pull {f : Addr} {fd : FuncData} (F : Fun K "_law_pull" "_law_pull" sPull f fd) (T : Bare mg) : FnOk P w K mg base CX0 1 f fd ["_law_dice_here", "_law_total"] spPull := by
  refine F.ok scPull (fun vs H Q E h => ?_) (fun cdv A outer s H vs Q E hr h => ?_)
  · obtain ⟨p, x, y, z, n, rfl, _⟩ := h
    rfl
  · obtain ⟨p, x, y, z, n, rfl, D, hn0, hn1, k⟩ := h
    refine ⟨_, pss_cons (ps_if (pt_cmpR op_gt (pe_ix ix_list (pv 0) pe_int (fun _ _ => rfl)) pe_int (nomark _))
        (pss_cons (ps_set (i := 2) scPull.nd rfl (Or.inl rfl) (pe_op op_mod (pe_callTy call_int1 (by rfl) T.int (by decide +kernel) (pa_cons (pe_ix ix_list (pv 0) pe_int (fun _ _ => rfl)) pa_nil)) (pv 1)))
        (pss_cons (ps_asg (pe_op op_fdiv (pe_ix ix_list (pv 0) pe_int (fun _ _ => rfl)) (pv 1)) (pg_sub (pv 0) pe_int set_list))
        (pss_one (ps_ret (pv 2))))) pss_nil)
      (pss_cons (ps_asg (pe_op op_add (pe_ix ix_list (pv 0) pe_int (fun _ _ => rfl)) pe_int) (pg_sub (pv 0) pe_int set_list))
      (pss_cons (ps_set (i := 3) scPull.nd rfl (Or.inl rfl) (pe_op op_mod (pe_callTy call_int1 (by rfl) T.int (by decide +kernel) (pa_cons (pe_op op_add (pe_ix ix_list (pv 0) pe_int (fun _ _ => rfl)) (pe_op op_mul pe_int (pe_ix ix_list (pv 0) pe_int (fun _ _ => rfl)))) pa_nil)) pe_int))
      (pss_cons (ps_set (i := 4) scPull.nd rfl (Or.inl rfl) (pe_op op_mul (pe_op op_mod (pe_callTy call_int1 (by rfl) T.int (by decide +kernel) (pa_cons (pe_op op_mul (pv 3) (pv 3)) pa_nil)) pe_int) (pv 3)))
      (pss_one (ps_ret (pe_op op_mod (pe_callTy call_int1 (by rfl) T.int (by decide +kernel) (pa_cons (pe_op op_fdiv (pe_op op_mod (pe_callTy call_int1 (by rfl) T.int (by decide +kernel) (pa_cons (pe_op op_add (pv 4) (pe_op op_mul pe_int (pe_ix ix_list (pv 0) pe_int (fun _ _ => rfl)))) pa_nil)) pe_int) pe_int) pa_nil)) (pv 1))))))), ?_⟩
    have h0 := D.at_
    refine ⟨_, rfl, p, _, _, .int x, rfl, rfl, SqL.of h0, rfl, _, _, rfl, rfl, _, rfl, ?_⟩
    refine ite2 (fun hgt => ?_) (fun _ => ?_)
    · have hx : 0 < x := of_decide_eq_true hgt
      refine ⟨_, rfl, p, _, _, .int x, rfl, rfl, SqL.of h0, rfl, .inl ⟨_, rfl, _, rfl, _, _, rfl, rfl, hn0, ?_⟩⟩
      refine ⟨_, rfl, p, _, _, .int x, rfl, rfl, SqL.of h0, rfl, _, rfl, _, _, rfl, rfl, ⟨hn0, by omega⟩, _, rfl, p, _, _, 0, rfl, rfl, h0, rfl, ?_⟩
      have hq : (0 : Int) ≤ x / n := Int.ediv_nonneg D.x0 (by omega)
      have hq2 : x / n ≤ x := Int.ediv_le_self n D.x0
      exact ⟨_, rfl, k _ _ z _ (Int.emod_nonneg _ (by omega)) (Int.emod_lt_of_pos _ hn0) ⟨upd_same, hq, Nat.lt_of_le_of_lt (by omega) D.x1, D.y0, D.y1, D.z0⟩ (by omega) fun b o hb e => by rw [upd_ne hb] <;> exact e⟩
    · refine ⟨_, rfl, p, _, _, .int z, rfl, rfl, SqL.of h0, rfl, _, _, rfl, rfl, _, rfl, p, _, _, 2, rfl, rfl, h0, rfl, ?_⟩
      have h1 : (upd H p (.lst [.int x, .int y, .int (z + 1)])) p = some (.lst [.int x, .int y, .int (z + 1)]) := upd_same
      refine ⟨_, rfl, p, _, _, .int y, rfl, rfl, SqL.of h1, rfl, _, rfl, p, _, _, .int (z + 1), rfl, rfl, SqL.of h1, rfl, _, _, rfl, rfl, .inl ⟨by decide, by decide⟩, _, _, rfl, rfl, .inl ⟨_, rfl, _, _, rfl, rfl, (by show (0 : Int) < 2305843009213693951; decide), ?_⟩⟩
      have a1 := Int.emod_nonneg (y + 1000159 * (z + 1)) (show (2305843009213693951 : Int) ≠ 0 by decide)
      have a2 := Int.emod_lt_of_pos (y + 1000159 * (z + 1)) (show (0 : Int) < 2305843009213693951 by decide)
      generalize (y + 1000159 * (z + 1)) % 2305843009213693951 = one at a1 a2 ⊢
      refine ⟨_, rfl, _, rfl, _, _, rfl, rfl, .inl ⟨by omega, by omega⟩, .inl ⟨_, rfl, _, _, rfl, rfl, (by show (0 : Int) < 2305843009213693907; decide), _, rfl, _, _, rfl, rfl, .inr ⟨by omega, by omega⟩, ?_⟩⟩
      refine ⟨_, rfl, _, rfl, p, _, _, .int (z + 1), rfl, rfl, SqL.of h1, rfl, _, _, rfl, rfl, .inl ⟨by decide, by decide⟩, _, _, rfl, rfl, .inl ⟨_, rfl, _, _, rfl, rfl, (by show (0 : Int) < 2305843009213693921; decide), _, _, rfl, rfl, ⟨by decide, by decide⟩, .inl ⟨_, rfl, _, rfl, _, _, rfl, rfl, hn0, ?_⟩⟩⟩
      exact k _ x (z + 1) _ (Int.emod_nonneg _ (by omega)) (Int.emod_lt_of_pos _ hn0) ⟨h1, D.x0, D.x1, D.y0, D.y1, by have := D.z0; omega⟩ (Int.le_refl _) fun b o hb e => by rw [upd_ne hb] <;> exact e
theorem scPick : FnScope ["_law_dice_here", "_law_items"] ["_law_dice_here", "_law_items"] (defScope sPick) := ⟨rfl, rfl, rfl, by decide +kernel, rfl, by decide +kernel, by decide +kernel⟩
theorem ok_pick {f fU : Addr} {fd fdU : FuncData} (F : Fun K "_law_pick" "_law_pick" sPick f fd) (T : Bare mg) (FU : Fun K "_law_pull" "_law_pull" sPull fU fdU) (bU : Binds K fdU ["_law_dice_here", "_law_total"] []) (mU : mg "_law_pull" = some (.ref fU)) : FnOk P w K mg base CX0 2 f fd ["_law_dice_here", "_law_items"] spPick := by
  have GU : FnOk P w K mg base CX0 1 fU fdU ["_law_dice_here", "_law_total"] spPull := ok_pull FU T
  refine F.ok scPick (fun vs H Q E h => ?_) (fun cdv A outer s H vs Q E hr h => ?_)
  · obtain ⟨p, q, x, y, z, xs, rfl, _⟩ := h
    rfl
  · obtain ⟨p, q, x, y, z, xs, rfl, D, hpq, hq, h0, h1, k⟩ := h
    refine ⟨_, pss_one (ps_ret (pe_ix ix_list (pv 1) (pe_call GU hr (by rfl) mU FU.kp bU .nil pass0 (pa_cons (pv 0) (pa_cons (pe_callB call_len_seq (by rfl) T.len PySem.boot_len (pa_cons (pv 1) pa_nil)) pa_nil))) (fun _ _ => rfl))), ?_⟩
    refine ⟨_, rfl, _, rfl, _, rfl, q, _, rfl, .inl (SqL.of hq), p, x, y, z, _, rfl, D, by omega, by omega, fun r x' z' H' r0 r1 D' hz hk => ?_⟩
    obtain ⟨j, rfl⟩ : ∃ j : Nat, r = (j : Int) := ⟨r.toNat, by omega⟩
    have hj : j < xs.length := by omega
    exact ⟨q, xs, _, xs[j], rfl, rfl, SqL.of (hk q _ hpq.symm hq), atI_nat (List.getElem?_eq_getElem hj), k j _ x' z' H' (List.getElem?_eq_getElem hj) D' hz hk⟩
theorem scValue : FnScope ["_law_dice_here", "_law_number", "_law_found"] ["_law_dice_here"] (defScope sValue) := ⟨rfl, rfl, rfl, by decide +kernel, rfl, by decide +kernel, by decide +kernel⟩
theorem few_x : Few "x" := by
  have h : (("x" : PySem.Str).cps.toList.all fun c => decide (c < 16 ^ 8)) = true := by decide +kernel
  exact ⟨by decide, fun c hc => of_decide_eq_true (List.all_eq_true.mp h c hc)⟩
theorem few_n {o : PySem.Str} {k : Nat} (h : o.length ≤ ("n" : PySem.Str).length * k) (hk : k ≤ 600) (hc : ∀ c ∈ o.cps.toList, c ∈ ("n" : PySem.Str).cps.toList) : Few o := by
  have z : (("n" : PySem.Str).cps.toList.all fun c => decide (c < 16 ^ 8)) = true := by decide +kernel
  have e : ("n" : PySem.Str).length = 1 := by decide +kernel
  rw [e, Nat.one_mul] at h
  exact ⟨Nat.le_trans h hk, fun c hm => of_decide_eq_true (List.all_eq_true.mp z c (hc c hm))⟩
theorem Kp.but {H H' : Hp} {v : V} {d : PyData} {p : Addr} {x y z : Int} (h : Kp H v d) (D : Dice H p x y z) (s : ∀ b o, b ≠ p → H b = some o → H' b = some o) : Kp H' v d := by
  have hd := D.at_
  have ne : ∀ {a : Addr} {o : HO}, H a = some o → o ≠ .lst [.int x, .int y, .int z] → a ≠ p := fun {a o} e n q => by
    rw [q, hd] at e
    exact n (Option.some.inj e).symm
  cases h with
  | non => exact .non
  | bl b => exact .bl b
  | int i h => exact .int i h
  | str x h => exact .str x h
  | tup e h hx => exact .tup (s _ _ (ne e (fun q => by cases q)) e) h hx
  | lst e h => exact .lst (s _ _ (ne e (fun q => by cases q)) e) h
  | dic e h hx => exact .dic (s _ _ (ne e (fun q => by cases q)) e) h hx
theorem small_log {n : Int} (h0 : -500 ≤ n) (h1 : n < 500) : n.natAbs.log2 < 90 := by
  by_cases e : n.natAbs = 0
  · rw [e]; decide
  · exact (Nat.log2_lt e).mpr (Nat.lt_of_lt_of_le (show n.natAbs < 2 ^ 10 by omega) (Nat.pow_le_pow_right (by decide) (by decide)))
theorem pow_log {n : Int} (h0 : -500 ≤ n) (h1 : n < 500) : (n ^ (9 : Int).toNat).natAbs.log2 < 90 := by
  have e : (n ^ (9 : Int).toNat).natAbs = n.natAbs ^ 9 := Int.natAbs_pow n 9
  rw [e]
  by_cases e0 : n.natAbs ^ 9 = 0
  · rw [e0]; decide
  · refine (Nat.log2_lt e0).mpr (Nat.lt_of_le_of_lt (Nat.pow_le_pow_left (show n.natAbs ≤ 500 by omega) 9) ?_)
    decide +kernel
theorem ok_value {f fU fP : Addr} {fd fdU fdP : FuncData} (F : Fun K "_law_value" "_law_value" sValue f fd) (T : Bare mg) (FU : Fun K "_law_pull" "_law_pull" sPull fU fdU) (bU : Binds K fdU ["_law_dice_here", "_law_total"] []) (mU : mg "_law_pull" = some (.ref fU))
    (FP : Fun K "_law_pick" "_law_pick" sPick fP fdP) (bP : Binds K fdP ["_law_dice_here", "_law_items"] []) (mP : mg "_law_pick" = some (.ref fP)) : FnOk P w K mg base CX0 3 f fd ["_law_dice_here"] spValue := by
  have GU : FnOk P w K mg base CX0 1 fU fdU ["_law_dice_here", "_law_total"] spPull := ok_pull FU T
  have GP : FnOk P w K mg base CX0 2 fP fdP ["_law_dice_here", "_law_items"] spPick := ok_pick FP T FU bU mU
  refine F.ok scValue (fun vs H Q E h => ?_) (fun cdv A outer s H vs Q E hr h => ?_)
  · obtain ⟨p, x, y, z, rfl, _⟩ := h
    rfl
  · obtain ⟨p, x, y, z, rfl, D, k⟩ := h
    have hr1 : Room 1 _ := hr.mono (by decide)
    refine ⟨_, pss_cons (ps_set (i := 1) scValue.nd rfl (Or.inl rfl) (pe_op op_sub (pe_call GU hr1 (by rfl) mU FU.kp bU .nil pass0 (pa_cons (pv 0) (pa_cons pe_int pa_nil))) pe_int))
      (pss_cons (ps_set (i := 2) scValue.nd rfl (Or.inl rfl) (pe_lst (pa_cons (pv 1) (pa_cons (pe_op op_pow (pv 1) pe_int) (pa_cons pe_non (pa_cons (pe_cmpR op_gt (pv 1) pe_int (nomark _))
        (pa_cons (pe_op op_times pe_str (pe_callTy call_int1 (by rfl) T.int (by decide +kernel) (pa_cons (pe_callB call_abs (by rfl) T.abs (by decide +kernel) (pa_cons (pv 1) pa_nil)) pa_nil)))
        (pa_cons (pe_tup (pa_cons (pv 1) (pa_cons pe_str pa_nil))) (pa_cons (pe_lst (pa_cons (pv 1) pa_nil)) (pa_cons (pe_disp (pps_cons (pv 1) pe_str pps_nil) rfl rfl (by simp) (by decide)) pa_nil))))))))))
      (pss_one (ps_ret (pe_call GP hr (by rfl) mP FP.kp bP .nil pass0 (pa_cons (pv 0) (pa_cons (pv 2) pa_nil)))))), ?_⟩
    refine ⟨_, rfl, p, x, y, z, _, rfl, D, by decide, by decide, fun r x1 z1 H1 r0 r1 D1 hz1 hk1 => ?_⟩
    refine ⟨_, _, rfl, rfl, ?_⟩
    have n0 : -500 ≤ r - 500 := by omega
    have n1 : r - 500 < 500 := by omega
    refine ⟨_, rfl, _, rfl, _, _, rfl, rfl, ⟨by decide, by decide, by omega⟩, _, rfl, _, _, rfl, rfl, _, rfl, _, rfl, .inl ⟨_, rfl, _, _, rfl, rfl, ?_, ?_, by decide, fun o ho hc => ?_⟩⟩
    · split <;> omega
    · split <;> omega
    refine ⟨_, rfl, (by show 2 ≤ sizeLine; decide), fun t ht => ?_⟩
    refine ⟨_, rfl, (by show 1 ≤ sizeLine; decide), fun l hl => ?_⟩
    intro d hd
    refine ⟨_, rfl, upd_same, [(Sum.inl (r - 500), .str "x")], rfl, (by show 1 ≤ 15; decide), (by show 8 ≤ sizeLine; decide), fun q hq => ?_⟩
    have et : (upd H1 t (.tup [.int (r - 500), .str "x"])) t = some (.tup [.int (r - 500), .str "x"]) := upd_same
    have el : (upd (upd H1 t (.tup [.int (r - 500), .str "x"])) l (.lst [.int (r - 500)])) l = some (.lst [.int (r - 500)]) := upd_same
    have p1 := D1.at_
    have pt : p ≠ t := ne_of_none p1 ht
    have pl : p ≠ l := ne_of_none (by rw [upd_ne pt] <;> exact p1) hl
    have pd : p ≠ d := ne_of_none (by rw [upd_ne pl, upd_ne pt] <;> exact p1) hd
    have pq : p ≠ q := ne_of_none (by rw [upd_ne pd, upd_ne pd, upd_ne pl, upd_ne pt] <;> exact p1) hq
    have tl : t ≠ l := ne_of_none et hl
    have td : t ≠ d := ne_of_none (by rw [upd_ne tl] <;> exact et) hd
    have ld : l ≠ d := ne_of_none el hd
    have tq : t ≠ q := ne_of_none (by rw [upd_ne td, upd_ne td, upd_ne tl] <;> exact et) hq
    have lq : l ≠ q := ne_of_none (by rw [upd_ne ld, upd_ne ld] <;> exact el) hq
    have dq : d ≠ q := ne_of_none upd_same hq
    refine ⟨_, rfl, _, rfl, p, q, x1, y, z1, _, rfl, ⟨by rw [upd_ne pq, upd_ne pd, upd_ne pd, upd_ne pl, upd_ne pt] <;> exact p1, D1.x0, D1.x1, D1.y0, D1.y1, D1.z0⟩, pq, upd_same, by show 0 < 8; decide, by show 8 < 1000; decide, fun j v x' z' H' hv D' hz' hk => ?_⟩
    have gt := hk t _ pt.symm (by rw [upd_ne tq, upd_ne td, upd_ne td, upd_ne tl] <;> exact et)
    have gl := hk l _ pl.symm (by rw [upd_ne lq, upd_ne ld, upd_ne ld] <;> exact el)
    have gd := hk d _ pd.symm (by rw [upd_ne dq] <;> exact upd_same)
    have kk : ∀ b o, b ≠ p → H b = some o → H' b = some o := fun b o hb e => by
      have e1 := hk1 b o hb e
      have bt : b ≠ t := ne_of_none e1 ht
      have e2 : (upd H1 t (.tup [.int (r - 500), .str "x"])) b = some o := by rw [upd_ne bt] <;> exact e1
      have bl : b ≠ l := ne_of_none e2 hl
      have e3 : (upd (upd H1 t (.tup [.int (r - 500), .str "x"])) l (.lst [.int (r - 500)])) b = some o := by rw [upd_ne bl] <;> exact e2
      have bd : b ≠ d := ne_of_none e3 hd
      have e4 : (upd (upd (upd (upd H1 t (.tup [.int (r - 500), .str "x"])) l (.lst [.int (r - 500)])) d (.dK [])) d (.dK [(Sum.inl (r - 500), .str "x")])) b = some o := by rw [upd_ne bd, upd_ne bd] <;> exact e3
      exact hk b o hb (by rw [upd_ne (ne_of_none e4 hq)] <;> exact e4)
    have fin : ∀ dd, Kp H' v dd → Q v H' := fun dd hkp => k v dd x' z' H' hkp D' (by omega) kk
    have sl := small_log n0 n1
    match j, hv with
    | 0, hv => cases hv; exact fin _ (.int _ sl)
    | 1, hv => cases hv; exact fin _ (.int _ (pow_log n0 n1))
    | 2, hv => cases hv; exact fin _ .non
    | 3, hv => cases hv; exact fin _ (.bl _)
    | 4, hv => cases hv; exact fin _ (.str _ (few_n ho (by split <;> omega) hc))
    | 5, hv => cases hv; exact fin _ (.tup gt sl few_x)
    | 6, hv => cases hv; exact fin _ (.lst gl sl)
    | 7, hv => cases hv; exact fin _ (.dic gd sl few_x)
    | j + 8, hv => simp at hv
end
end K0
/-! What the text says of its sixteen errors and of LetterError; of which classes an error is. -/
namespace K0
open PySem PySem.Spec PyProof.Rows L2

abbrev sClasses : Stmt := top 23
abbrev sBases : Stmt := top 24

/-- of which of the classes from which errors are derived the i-th class is (16: LetterError) -/
def dueB (i j : Nat) : Bool := if i < 10 then decide (j < 2) else if i = 10 then decide (j = 2) || decide (j = 7) else if i = 11 then decide (j = 3) || decide (j = 7) else if i = 12 then decide (j = 4) || decide (j = 6) else if i = 13 then decide (j = 6) else if i = 14 then decide (j = 5) else if i = 15 then decide (j = 7) else decide (j < 2)
def row (i : Nat) : List Bool := (List.range 16).map fun j => decide (j = i)
def due (i : Nat) : List Bool := (List.range 8).map fun j => dueB i j
def bt (cs : List Addr) (j : Nat) : Value := if j = 0 then .ref (cs.getD 16 0) else if j = 1 then .type "ValueError" else if j = 2 then .type "IndexError" else if j = 3 then .type "KeyError" else if j = 4 then .type "OverflowError" else if j = 5 then .type "RuntimeError" else if j = 6 then .type "ArithmeticError" else .type "LookupError"
def excChk (K : PySem.W.Frag) (D : Addr) : Bool :=
  (PySem.W.findIn K (.ref D) "__getattribute__" == some (some (.builtin "BaseException.__getattribute__"))) && ((PySem.W.findIn K (.ref D) "__getattr__" == some none) && ((PySem.W.subIn K (.ref D) (.type "BaseException") == some true) && (PySem.W.hasDictIn K D &&
  ((PySem.W.findIn K (.ref D) "__class__" == some (some (.builtin "object.__class__"))) && ((PySem.W.specialIn K (.builtin "object.__class__") "__get__" == some (some (.builtin "getset_descriptor.__get__"))) && ((PySem.W.takesIn K (.builtin "object.__class__") == some true) && (PySem.W.mroIn K D (.type "object") == some true)))))))
theorem excChk_of {K : PySem.W.Frag} {D : Addr} (h : excChk K D = true) : ExcC K D := by
  unfold excChk at h
  simp only [Bool.and_eq_true, beq_iff_eq] at h
  obtain ⟨h1, h2, h3, h4, h5, h6, h7, h8⟩ := h
  exact ⟨h1, h2, h3, h4, h5, h6, h7, h8⟩
def msgChk (K : PySem.W.Frag) (D : Addr) : Bool := PySem.W.excInitIn K D [.type "ValueError", .type "Exception", .type "BaseException", .type "object"] "ValueError.__new__" && ((PySem.W.findIn K (.ref D) "__init__" == some (some (.builtin "ValueError.__init__"))) && PySem.W.keepIn K (.ref D))
/-- all of it as one computation -/
def clsChk (K : PySem.W.Frag) (cs : List Addr) : Bool :=
  ((List.range 17).all fun i => excChk K (cs.getD i 0)) && (((List.range 17).all fun i => decide (10 ≤ i ∧ i < 16) || msgChk K (cs.getD i 0)) &&
  (((List.range 17).all fun i => (List.range 16).all fun j => PySem.W.kitOne K (.ref (cs.getD i 0)) (.ref (cs.getD j 0)) == some (decide (j = i))) && ((List.range 17).all fun i => (List.range 8).all fun j => PySem.W.kitOne K (.ref (cs.getD i 0)) (bt cs j) == some (dueB i j))))
structure Cls (K : PySem.W.Frag) (cs : List Addr) : Prop where
  exc : ∀ i, i < 17 → ExcC K (cs.getD i 0)
  msg : ∀ i, i < 17 → ¬ (10 ≤ i ∧ i < 16) → PySem.W.excInitIn K (cs.getD i 0) [.type "ValueError", .type "Exception", .type "BaseException", .type "object"] "ValueError.__new__" = true ∧ PySem.W.findIn K (.ref (cs.getD i 0)) "__init__" = some (some (.builtin "ValueError.__init__")) ∧ PySem.W.keepIn K (.ref (cs.getD i 0)) = true
  own : ∀ i, i < 17 → ∀ j, j < 16 → PySem.W.kitOne K (.ref (cs.getD i 0)) (.ref (cs.getD j 0)) = some (decide (j = i))
  bas : ∀ i, i < 17 → ∀ j, j < 8 → PySem.W.kitOne K (.ref (cs.getD i 0)) (bt cs j) = some (dueB i j)
theorem cls_of {K : PySem.W.Frag} {cs : List Addr} (h : clsChk K cs = true) : Cls K cs := by
  unfold clsChk at h
  simp only [Bool.and_eq_true, List.all_eq_true, List.mem_range, beq_iff_eq, Bool.or_eq_true, decide_eq_true_eq] at h
  obtain ⟨h1, h2, h3, h4⟩ := h
  refine ⟨fun i hi => excChk_of (h1 i hi), fun i hi hn => ?_, fun i hi j hj => h3 i hi j hj, fun i hi j hj => h4 i hi j hj⟩
  have z := (h2 i hi).resolve_left hn
  unfold msgChk at z
  simp only [Bool.and_eq_true, beq_iff_eq] at z
  exact z
/-- the names of the errors at the top -/
structure Nms (mg : PySem.Str → Option Value) (cs : List Addr) : Prop where
  m0 : mg "InvalidName" = some (.ref (cs.getD 0 0))
  m1 : mg "InvalidOrder" = some (.ref (cs.getD 1 0))
  m2 : mg "InvalidRun" = some (.ref (cs.getD 2 0))
  m3 : mg "InvalidPattern" = some (.ref (cs.getD 3 0))
  m4 : mg "InvalidRule" = some (.ref (cs.getD 4 0))
  m5 : mg "InvalidMarking" = some (.ref (cs.getD 5 0))
  m6 : mg "InvalidTransport" = some (.ref (cs.getD 6 0))
  m7 : mg "InvalidOperation" = some (.ref (cs.getD 7 0))
  m8 : mg "ParseError" = some (.ref (cs.getD 8 0))
  m9 : mg "InvalidCommand" = some (.ref (cs.getD 9 0))
  m10 : mg "InvalidNumber" = some (.ref (cs.getD 10 0))
  m11 : mg "UnknownName" = some (.ref (cs.getD 11 0))
  m12 : mg "TooMany" = some (.ref (cs.getD 12 0))
  m13 : mg "NoOrder" = some (.ref (cs.getD 13 0))
  m14 : mg "Held" = some (.ref (cs.getD 14 0))
  m15 : mg "NothingToUndo" = some (.ref (cs.getD 15 0))
  m16 : mg "LetterError" = some (.ref (cs.getD 16 0))
  b1 : mg "ValueError" = none
  b2 : mg "IndexError" = none
  b3 : mg "KeyError" = none
  b4 : mg "OverflowError" = none
  b5 : mg "RuntimeError" = none
  b6 : mg "ArithmeticError" = none
  b7 : mg "LookupError" = none
theorem sn {H : Hp} {p : Addr} {o : HO} (h : H p = none) : Same H (upd H p o) := fun b u e => by rw [upd_ne (ne_of_none e h)] <;> exact e
/-- isinstance(e, X) where X is a class of the text -/
theorem pe_isi {X : Cx} {x y : PySem.Str} {D : Addr} {te : TE} {p1 p2 p3 pos : Pos} (hi : Gl X "isinstance") (hm : X.mg "isinstance" = none) (h0 : PE X (.Name y p2) te) (g : Gl X x) (m : X.mg x = some (.ref D)) (hd : (x == ("__debug__" : PySem.Str)) = false := by decide) :
    PE X (.Call (.Name "isinstance" p1) [.Name y p2, .Name x p3] [] pos) (tCB (rIsX X.K) (tCons te (tCons (tC (.ref D)) tNil))) :=
  pe_callB call_isX hi hm (by decide +kernel) (pa_cons h0 (pa_cons (pe_glob (v := .ref D) g m rfl hd) pa_nil))
/-- isinstance(e, X) where X is a built-in class -/
theorem pe_isb {X : Cx} {x y : PySem.Str} {T : String} {te : TE} {p1 p2 p3 pos : Pos} (hi : Gl X "isinstance") (hm : X.mg "isinstance" = none) (h0 : PE X (.Name y p2) te) (g : Gl X x) (m : X.mg x = none) (hv : bootBuiltins x = some (.type T)) (hn : x ≠ "__name__" := by decide) (hd : (x == ("__debug__" : PySem.Str)) = false := by decide) :
    PE X (.Call (.Name "isinstance" p1) [.Name y p2, .Name x p3] [] pos) (tCB (rIsX X.K) (tCons te (tCons (tC (.ty T)) tNil))) :=
  pe_callB call_isX hi hm (by decide +kernel) (pa_cons h0 (pa_cons (pe_bltn (v := .ty T) g m hv rfl hn hd) pa_nil))
def spClasses (cs : List Addr) : Sp := fun vs H Q _ => ∃ (a : Addr) (i : Nat) (fv : Option (PySem.Str × V)), vs = [.ref a] ∧ i < 17 ∧ ExAt H a (cs.getD i 0) fv ∧ ∀ (p : Addr) (H' : Hp), Same H H' → H' p = some (.lst ((row i).map V.bl)) → Q (.ref p) H'
def spBases (cs : List Addr) : Sp := fun vs H Q _ => ∃ (a : Addr) (i : Nat) (fv : Option (PySem.Str × V)), vs = [.ref a] ∧ i < 17 ∧ ExAt H a (cs.getD i 0) fv ∧ ∀ (p : Addr) (H' : Hp), Same H H' → H' p = some (.lst ((due i).map V.bl)) → Q (.ref p) H'
section
variable {P : Program} {w : World} {K : PySem.W.Frag} {mg : PySem.Str → Option Value} {base : Heap} {cs : List Addr}
theorem scClasses : FnScope ["_law_error", "_law_found"] ["_law_error"] (defScope sClasses) := ⟨rfl, rfl, rfl, by decide +kernel, rfl, by decide +kernel, by decide +kernel⟩
theorem ok_classes {f : Addr} {fd : FuncData} (F : Fun K "_law_classes" "_law_classes" sClasses f fd) (T : Bare mg) (N : Nms mg cs) (C : Cls K cs) : FnOk P w K mg base CX0 1 f fd ["_law_error"] (spClasses cs) := by
  refine F.ok scClasses (fun vs H Q E h => ?_) (fun cdv A outer s H vs Q E hr h => ?_)
  · obtain ⟨a, i, fv, rfl, _⟩ := h
    rfl
  · obtain ⟨a, i, fv, rfl, hi, hx, k⟩ := h
    have xc := C.exc i hi
    have I : ∀ j, j < 16 → PySem.W.kitOne K (.ref (cs.getD i 0)) (.ref (cs.getD j 0)) = some (decide (j = i)) := C.own i hi
    refine ⟨_, (pss_cons (ps_set (i := 1) scClasses.nd rfl (Or.inl rfl) (pe_lst (pa_cons (pe_isi (by rfl) T.isi (pv 0) (by rfl) N.m0) (pa_cons (pe_isi (by rfl) T.isi (pv 0) (by rfl) N.m1) (pa_cons (pe_isi (by rfl) T.isi (pv 0) (by rfl) N.m2) pa_nil)))))
      (pss_cons (ps_set (i := 1) scClasses.nd rfl (Or.inl rfl) (pe_op op_cat (pv 1) (pe_lst (pa_cons (pe_isi (by rfl) T.isi (pv 0) (by rfl) N.m3) (pa_cons (pe_isi (by rfl) T.isi (pv 0) (by rfl) N.m4) pa_nil)))))
      (pss_cons (ps_set (i := 1) scClasses.nd rfl (Or.inl rfl) (pe_op op_cat (pv 1) (pe_lst (pa_cons (pe_isi (by rfl) T.isi (pv 0) (by rfl) N.m5) (pa_cons (pe_isi (by rfl) T.isi (pv 0) (by rfl) N.m6) pa_nil)))))
      (pss_cons (ps_set (i := 1) scClasses.nd rfl (Or.inl rfl) (pe_op op_cat (pv 1) (pe_lst (pa_cons (pe_isi (by rfl) T.isi (pv 0) (by rfl) N.m7) (pa_cons (pe_isi (by rfl) T.isi (pv 0) (by rfl) N.m8) pa_nil)))))
      (pss_cons (ps_set (i := 1) scClasses.nd rfl (Or.inl rfl) (pe_op op_cat (pv 1) (pe_lst (pa_cons (pe_isi (by rfl) T.isi (pv 0) (by rfl) N.m9) (pa_cons (pe_isi (by rfl) T.isi (pv 0) (by rfl) N.m10) pa_nil)))))
      (pss_cons (ps_set (i := 1) scClasses.nd rfl (Or.inl rfl) (pe_op op_cat (pv 1) (pe_lst (pa_cons (pe_isi (by rfl) T.isi (pv 0) (by rfl) N.m11) (pa_cons (pe_isi (by rfl) T.isi (pv 0) (by rfl) N.m12) (pa_cons (pe_isi (by rfl) T.isi (pv 0) (by rfl) N.m13) pa_nil))))))
      (pss_one (ps_ret (pe_op op_cat (pv 1) (pe_lst (pa_cons (pe_isi (by rfl) T.isi (pv 0) (by rfl) N.m14) (pa_cons (pe_isi (by rfl) T.isi (pv 0) (by rfl) N.m15) pa_nil)))))))))))), ?_⟩
    refine ⟨_, rfl, a, _, fv, _, _, _, rfl, hx, xc, .own _, I 0 (by decide), _, rfl, a, _, fv, _, _, _, rfl, hx, xc, .own _, I 1 (by decide), _, rfl, a, _, fv, _, _, _, rfl, hx, xc, .own _, I 2 (by decide), (by show 3 ≤ sizeLine; decide), fun l0 n0 => ?_⟩
    have s0 := sn (o := (.lst [.bl (decide (0 = i)), .bl (decide (1 = i)), .bl (decide (2 = i))])) n0
    have hx0 := hx.same s0
    refine ⟨_, rfl, _, rfl, a, _, fv, _, _, _, rfl, hx0, xc, .own _, I 3 (by decide), _, rfl, a, _, fv, _, _, _, rfl, hx0, xc, .own _, I 4 (by decide), (by show 2 ≤ sizeLine; decide), fun p0 np0 => ?_⟩
    refine ⟨l0, p0, _, _, rfl, rfl, sn np0 _ _ upd_same, upd_same, (by show 5 ≤ sizeLine; decide), fun q0 nq0 => ?_⟩
    have s1 := (s0.trans (sn (o := (.lst [.bl (decide (3 = i)), .bl (decide (4 = i))])) np0)).trans (sn (o := (.lst [.bl (decide (0 = i)), .bl (decide (1 = i)), .bl (decide (2 = i)), .bl (decide (3 = i)), .bl (decide (4 = i))])) nq0)
    have hx1 := hx.same s1
    refine ⟨_, rfl, _, rfl, a, _, fv, _, _, _, rfl, hx1, xc, .own _, I 5 (by decide), _, rfl, a, _, fv, _, _, _, rfl, hx1, xc, .own _, I 6 (by decide), (by show 2 ≤ sizeLine; decide), fun p1 np1 => ?_⟩
    refine ⟨q0, p1, _, _, rfl, rfl, sn np1 _ _ upd_same, upd_same, (by show 7 ≤ sizeLine; decide), fun q1 nq1 => ?_⟩
    have s2 := (s1.trans (sn (o := (.lst [.bl (decide (5 = i)), .bl (decide (6 = i))])) np1)).trans (sn (o := (.lst [.bl (decide (0 = i)), .bl (decide (1 = i)), .bl (decide (2 = i)), .bl (decide (3 = i)), .bl (decide (4 = i)), .bl (decide (5 = i)), .bl (decide (6 = i))])) nq1)
    have hx2 := hx.same s2
    refine ⟨_, rfl, _, rfl, a, _, fv, _, _, _, rfl, hx2, xc, .own _, I 7 (by decide), _, rfl, a, _, fv, _, _, _, rfl, hx2, xc, .own _, I 8 (by decide), (by show 2 ≤ sizeLine; decide), fun p2 np2 => ?_⟩
    refine ⟨q1, p2, _, _, rfl, rfl, sn np2 _ _ upd_same, upd_same, (by show 9 ≤ sizeLine; decide), fun q2 nq2 => ?_⟩
    have s3 := (s2.trans (sn (o := (.lst [.bl (decide (7 = i)), .bl (decide (8 = i))])) np2)).trans (sn (o := (.lst [.bl (decide (0 = i)), .bl (decide (1 = i)), .bl (decide (2 = i)), .bl (decide (3 = i)), .bl (decide (4 = i)), .bl (decide (5 = i)), .bl (decide (6 = i)), .bl (decide (7 = i)), .bl (decide (8 = i))])) nq2)
    have hx3 := hx.same s3
    refine ⟨_, rfl, _, rfl, a, _, fv, _, _, _, rfl, hx3, xc, .own _, I 9 (by decide), _, rfl, a, _, fv, _, _, _, rfl, hx3, xc, .own _, I 10 (by decide), (by show 2 ≤ sizeLine; decide), fun p3 np3 => ?_⟩
    refine ⟨q2, p3, _, _, rfl, rfl, sn np3 _ _ upd_same, upd_same, (by show 11 ≤ sizeLine; decide), fun q3 nq3 => ?_⟩
    have s4 := (s3.trans (sn (o := (.lst [.bl (decide (9 = i)), .bl (decide (10 = i))])) np3)).trans (sn (o := (.lst [.bl (decide (0 = i)), .bl (decide (1 = i)), .bl (decide (2 = i)), .bl (decide (3 = i)), .bl (decide (4 = i)), .bl (decide (5 = i)), .bl (decide (6 = i)), .bl (decide (7 = i)), .bl (decide (8 = i)), .bl (decide (9 = i)), .bl (decide (10 = i))])) nq3)
    have hx4 := hx.same s4
    refine ⟨_, rfl, _, rfl, a, _, fv, _, _, _, rfl, hx4, xc, .own _, I 11 (by decide), _, rfl, a, _, fv, _, _, _, rfl, hx4, xc, .own _, I 12 (by decide), _, rfl, a, _, fv, _, _, _, rfl, hx4, xc, .own _, I 13 (by decide), (by show 3 ≤ sizeLine; decide), fun p4 np4 => ?_⟩
    refine ⟨q3, p4, _, _, rfl, rfl, sn np4 _ _ upd_same, upd_same, (by show 14 ≤ sizeLine; decide), fun q4 nq4 => ?_⟩
    have s5 := (s4.trans (sn (o := (.lst [.bl (decide (11 = i)), .bl (decide (12 = i)), .bl (decide (13 = i))])) np4)).trans (sn (o := (.lst [.bl (decide (0 = i)), .bl (decide (1 = i)), .bl (decide (2 = i)), .bl (decide (3 = i)), .bl (decide (4 = i)), .bl (decide (5 = i)), .bl (decide (6 = i)), .bl (decide (7 = i)), .bl (decide (8 = i)), .bl (decide (9 = i)), .bl (decide (10 = i)), .bl (decide (11 = i)), .bl (decide (12 = i)), .bl (decide (13 = i))])) nq4)
    have hx5 := hx.same s5
    refine ⟨_, rfl, _, rfl, a, _, fv, _, _, _, rfl, hx5, xc, .own _, I 14 (by decide), _, rfl, a, _, fv, _, _, _, rfl, hx5, xc, .own _, I 15 (by decide), (by show 2 ≤ sizeLine; decide), fun p5 np5 => ?_⟩
    refine ⟨q4, p5, _, _, rfl, rfl, sn np5 _ _ upd_same, upd_same, (by show 16 ≤ sizeLine; decide), fun q5 nq5 => ?_⟩
    have s6 := (s5.trans (sn (o := (.lst [.bl (decide (14 = i)), .bl (decide (15 = i))])) np5)).trans (sn (o := (.lst [.bl (decide (0 = i)), .bl (decide (1 = i)), .bl (decide (2 = i)), .bl (decide (3 = i)), .bl (decide (4 = i)), .bl (decide (5 = i)), .bl (decide (6 = i)), .bl (decide (7 = i)), .bl (decide (8 = i)), .bl (decide (9 = i)), .bl (decide (10 = i)), .bl (decide (11 = i)), .bl (decide (12 = i)), .bl (decide (13 = i)), .bl (decide (14 = i)), .bl (decide (15 = i))])) nq5)
    have hx6 := hx.same s6
    exact k _ _ s6 upd_same
theorem scBases : FnScope ["_law_error", "_law_found"] ["_law_error"] (defScope sBases) := ⟨rfl, rfl, rfl, by decide +kernel, rfl, by decide +kernel, by decide +kernel⟩
theorem ok_bases {f : Addr} {fd : FuncData} (F : Fun K "_law_bases" "_law_bases" sBases f fd) (T : Bare mg) (N : Nms mg cs) (C : Cls K cs) : FnOk P w K mg base CX0 1 f fd ["_law_error"] (spBases cs) := by
  refine F.ok scBases (fun vs H Q E h => ?_) (fun cdv A outer s H vs Q E hr h => ?_)
  · obtain ⟨a, i, fv, rfl, _⟩ := h
    rfl
  · obtain ⟨a, i, fv, rfl, hi, hx, k⟩ := h
    have xc := C.exc i hi
    have I : ∀ j, j < 8 → PySem.W.kitOne K (.ref (cs.getD i 0)) (bt cs j) = some (dueB i j) := C.bas i hi
    refine ⟨_, (pss_cons (ps_set (i := 1) scBases.nd rfl (Or.inl rfl) (pe_lst (pa_cons (pe_isi (by rfl) T.isi (pv 0) (by rfl) N.m16) (pa_cons (pe_isb (T := "ValueError") (by rfl) T.isi (pv 0) (by rfl) N.b1 (by decide +kernel)) (pa_cons (pe_isb (T := "IndexError") (by rfl) T.isi (pv 0) (by rfl) N.b2 (by decide +kernel)) pa_nil)))))
      (pss_cons (ps_set (i := 1) scBases.nd rfl (Or.inl rfl) (pe_op op_cat (pv 1) (pe_lst (pa_cons (pe_isb (T := "KeyError") (by rfl) T.isi (pv 0) (by rfl) N.b3 (by decide +kernel)) (pa_cons (pe_isb (T := "OverflowError") (by rfl) T.isi (pv 0) (by rfl) N.b4 (by decide +kernel)) (pa_cons (pe_isb (T := "RuntimeError") (by rfl) T.isi (pv 0) (by rfl) N.b5 (by decide +kernel)) pa_nil))))))
      (pss_one (ps_ret (pe_op op_cat (pv 1) (pe_lst (pa_cons (pe_isb (T := "ArithmeticError") (by rfl) T.isi (pv 0) (by rfl) N.b6 (by decide +kernel)) (pa_cons (pe_isb (T := "LookupError") (by rfl) T.isi (pv 0) (by rfl) N.b7 (by decide +kernel)) pa_nil)))))))), ?_⟩
    refine ⟨_, rfl, a, _, fv, _, _, _, rfl, hx, xc, .own _, I 0 (by decide), _, rfl, a, _, fv, _, _, _, rfl, hx, xc, .ty _, I 1 (by decide), _, rfl, a, _, fv, _, _, _, rfl, hx, xc, .ty _, I 2 (by decide), (by show 3 ≤ sizeLine; decide), fun l0 n0 => ?_⟩
    have s0 := sn (o := (.lst [.bl (dueB i 0), .bl (dueB i 1), .bl (dueB i 2)])) n0
    have hx0 := hx.same s0
    refine ⟨_, rfl, _, rfl, a, _, fv, _, _, _, rfl, hx0, xc, .ty _, I 3 (by decide), _, rfl, a, _, fv, _, _, _, rfl, hx0, xc, .ty _, I 4 (by decide), _, rfl, a, _, fv, _, _, _, rfl, hx0, xc, .ty _, I 5 (by decide), (by show 3 ≤ sizeLine; decide), fun p0 np0 => ?_⟩
    refine ⟨l0, p0, _, _, rfl, rfl, sn np0 _ _ upd_same, upd_same, (by show 6 ≤ sizeLine; decide), fun q0 nq0 => ?_⟩
    have s1 := (s0.trans (sn (o := (.lst [.bl (dueB i 3), .bl (dueB i 4), .bl (dueB i 5)])) np0)).trans (sn (o := (.lst [.bl (dueB i 0), .bl (dueB i 1), .bl (dueB i 2), .bl (dueB i 3), .bl (dueB i 4), .bl (dueB i 5)])) nq0)
    have hx1 := hx.same s1
    refine ⟨_, rfl, _, rfl, a, _, fv, _, _, _, rfl, hx1, xc, .ty _, I 6 (by decide), _, rfl, a, _, fv, _, _, _, rfl, hx1, xc, .ty _, I 7 (by decide), (by show 2 ≤ sizeLine; decide), fun p1 np1 => ?_⟩
    refine ⟨q0, p1, _, _, rfl, rfl, sn np1 _ _ upd_same, upd_same, (by show 8 ≤ sizeLine; decide), fun q1 nq1 => ?_⟩
    have s2 := (s1.trans (sn (o := (.lst [.bl (dueB i 6), .bl (dueB i 7)])) np1)).trans (sn (o := (.lst [.bl (dueB i 0), .bl (dueB i 1), .bl (dueB i 2), .bl (dueB i 3), .bl (dueB i 4), .bl (dueB i 5), .bl (dueB i 6), .bl (dueB i 7)])) nq1)
    have hx2 := hx.same s2
    exact k _ _ s2 upd_same
end
end K0
/-! The ten errors that take a message, and LetterError itself. -/
namespace K0
open PySem PySem.Spec PyProof.Rows L2

abbrev sMsgs : Stmt := top 25
abbrev nMsgs : List PySem.Str := ["_law_text", "_law_made", "_law_at", "_law_place"]
def spMsgs : Sp := fun vs H Q _ => ∃ x : PySem.Str, vs = [.str x] ∧ ∀ H', Same H H' → Q (.bl true) H'
/-- lists of truth values as data -/
theorem dp_bools {K : PySem.W.Frag} {H : Hp} {p : Addr} {bs : List Bool} (h : H p = some (.lst (bs.map V.bl))) : Dp K H (.ref p) (.list (bs.map PyData.bool)) := by
  refine .lst (SqL.of h) ?_
  clear h
  induction bs with
  | nil => exact .nil
  | cons b r ih => exact .cons (.bl b) ih
theorem lay_bools (bs : List Bool) : PyData.canLayAll0 (bs.map PyData.bool) = true ∧ PyData.depthAll (bs.map PyData.bool) = 0 := by
  induction bs with
  | nil => exact ⟨rfl, rfl⟩
  | cons b r ih =>
    refine ⟨?_, ?_⟩
    · show (PyData.canLay0 (.bool b) && PyData.canLayAll0 (r.map PyData.bool)) = true
      rw [ih.1] <;> rfl
    · show max (PyData.depth (.bool b)) (PyData.depthAll (r.map PyData.bool)) = 0
      rw [ih.2] <;> rfl
theorem shp_bools (bs : List Bool) : SeqAt.shaped (.list (bs.map PyData.bool)) = true := by
  have z := lay_bools bs
  unfold SeqAt.shaped
  simp only [PyData.canLay0, PyData.depth, z.1, z.2]
  decide
theorem eqv_bools (bs : List Bool) : PyData.eqv (.list (bs.map PyData.bool)) (.list (bs.map PyData.bool)) = true := SeqAt.eqv_refl _ (by simp only [PyData.canLay0, (lay_bools bs).1])
theorem due_msg : ∀ i, i < 10 → due i = [true, true, false, false, false, false, false, false] := by decide
theorem ifF {c : Bool} {A B : Prop} (hc : c = false) (h : B) : if c = true then A else B := by rw [hc, if_neg Bool.false_ne_true] <;> exact h
theorem turn_row {i j : Nat} : (((List.range j).map fun q => decide (q = i)).map V.bl) ++ [V.bl (decide (V.int (0 + (j : Int)) = V.int (0 + (i : Int))))] = ((List.range (j + 1)).map fun q => decide (q = i)).map V.bl := by
  have e : decide (V.int (0 + (j : Int)) = V.int (0 + (i : Int))) = decide (j = i) := by
    by_cases h : j = i
    · rw [decide_eq_true h, decide_eq_true (by rw [h])]
    · rw [decide_eq_false h, decide_eq_false (fun q => h (by injection q with q; omega))]
  rw [e, List.range_succ, List.map_append, List.map_append] <;> rfl
section
variable {P : Program} {w : World} {K : PySem.W.Frag} {mg : PySem.Str → Option Value} {base : Heap} {cs : List Addr}
theorem scMsgs : FnScope nMsgs ["_law_text"] (defScope sMsgs) := ⟨rfl, rfl, rfl, by decide +kernel, rfl, by decide +kernel, by decide +kernel⟩
theorem ok_msgs {f fC fB : Addr} {fd fdC fdB : FuncData} (F : Fun K "_law_messages_right" "_law_messages_right" sMsgs f fd) (T : Bare mg) (N : Nms mg cs) (C : Cls K cs) (FC : Fun K "_law_classes" "_law_classes" sClasses fC fdC) (bC : Binds K fdC ["_law_error"] []) (mC : mg "_law_classes" = some (.ref fC))
    (FB : Fun K "_law_bases" "_law_bases" sBases fB fdB) (bB : Binds K fdB ["_law_error"] []) (mB : mg "_law_bases" = some (.ref fB)) : FnOk P w K mg base CX0 2 f fd ["_law_text"] spMsgs := by
  have GC : FnOk P w K mg base CX0 1 fC fdC ["_law_error"] (spClasses cs) := ok_classes FC T N C
  have GB : FnOk P w K mg base CX0 1 fB fdB ["_law_error"] (spBases cs) := ok_bases FB T N C
  refine F.ok scMsgs (fun vs H Q E h => ?_) (fun cdv A outer s H vs Q E hr1 h => ?_)
  · obtain ⟨x, rfl, _⟩ := h
    rfl
  · obtain ⟨x, rfl, k⟩ := h
    have hu := hr1.units
    refine ⟨_, (pss_cons (ps_set (i := 1) scMsgs.nd rfl (Or.inl rfl) (pe_lst (pa_cons (pe_exm PySem.F.excBase_ValueError (C.msg 0 (by decide) (by decide)).1 (C.msg 0 (by decide) (by decide)).2.1 N.m0 (C.msg 0 (by decide) (by decide)).2.2 (by rfl) (pv 0)) (pa_cons (pe_exm PySem.F.excBase_ValueError (C.msg 1 (by decide) (by decide)).1 (C.msg 1 (by decide) (by decide)).2.1 N.m1 (C.msg 1 (by decide) (by decide)).2.2 (by rfl) (pv 0)) (pa_cons (pe_exm PySem.F.excBase_ValueError (C.msg 2 (by decide) (by decide)).1 (C.msg 2 (by decide) (by decide)).2.1 N.m2 (C.msg 2 (by decide) (by decide)).2.2 (by rfl) (pv 0)) (pa_cons (pe_exm PySem.F.excBase_ValueError (C.msg 3 (by decide) (by decide)).1 (C.msg 3 (by decide) (by decide)).2.1 N.m3 (C.msg 3 (by decide) (by decide)).2.2 (by rfl) (pv 0)) (pa_cons (pe_exm PySem.F.excBase_ValueError (C.msg 4 (by decide) (by decide)).1 (C.msg 4 (by decide) (by decide)).2.1 N.m4 (C.msg 4 (by decide) (by decide)).2.2 (by rfl) (pv 0)) pa_nil)))))))
      (pss_cons (ps_set (i := 1) scMsgs.nd rfl (Or.inl rfl) (pe_op op_cat (pv 1) (pe_lst (pa_cons (pe_exm PySem.F.excBase_ValueError (C.msg 5 (by decide) (by decide)).1 (C.msg 5 (by decide) (by decide)).2.1 N.m5 (C.msg 5 (by decide) (by decide)).2.2 (by rfl) (pv 0)) (pa_cons (pe_exm PySem.F.excBase_ValueError (C.msg 6 (by decide) (by decide)).1 (C.msg 6 (by decide) (by decide)).2.1 N.m6 (C.msg 6 (by decide) (by decide)).2.2 (by rfl) (pv 0)) (pa_cons (pe_exm PySem.F.excBase_ValueError (C.msg 7 (by decide) (by decide)).1 (C.msg 7 (by decide) (by decide)).2.1 N.m7 (C.msg 7 (by decide) (by decide)).2.2 (by rfl) (pv 0)) pa_nil))))))
      (pss_cons (ps_set (i := 1) scMsgs.nd rfl (Or.inl rfl) (pe_op op_cat (pv 1) (pe_lst (pa_cons (pe_exm PySem.F.excBase_ValueError (C.msg 8 (by decide) (by decide)).1 (C.msg 8 (by decide) (by decide)).2.1 N.m8 (C.msg 8 (by decide) (by decide)).2.2 (by rfl) (pv 0)) (pa_cons (pe_exm PySem.F.excBase_ValueError (C.msg 9 (by decide) (by decide)).1 (C.msg 9 (by decide) (by decide)).2.1 N.m9 (C.msg 9 (by decide) (by decide)).2.2 (by rfl) (pv 0)) pa_nil)))))
      (pss_cons (ps_for PassesOwn.never rfl (pi_range1 (by rfl) T.rng (pa_cons pe_int pa_nil)) (pg_name (i := 2) scMsgs.nd rfl (Or.inr rfl))
        (pss_cons (ps_if (pt_cmpR (op_neD hu) (pe_call GC hr1 (by rfl) mC FC.kp bC .nil pass0 (pa_cons (pe_ix ix_list (pv 1) (pv 2) (fun _ _ => rfl)) pa_nil)) (pe_lc (own := [("_law_place", 3)]) (g := gName 3) (tt := tYes) rfl scMsgs.nd (pi_range1 (by rfl) T.rng (pa_cons pe_int pa_nil)) (blkOk_by (N := nMsgs) (sc := defScope sMsgs) (by decide +kernel)) (fun _ _ _ _ _ => pg_name (i := 3) scMsgs.nd rfl (Or.inl rfl)) (fun _ _ _ _ _ => pts_nil) (fun _ _ _ _ _ => pe_cmpR op_eq (pv 3) (pv 2) (nomark _))) (nomark _)) (pss_one (ps_ret pe_bl)) pss_nil)
      (pss_one (ps_if (pt_cmpR (op_neD hu) (pe_call GB hr1 (by rfl) mB FB.kp bB .nil pass0 (pa_cons (pe_ix ix_list (pv 1) (pv 2) (fun _ _ => rfl)) pa_nil)) (pe_op op_cat (pe_lst (pa_cons pe_bl (pa_cons pe_bl pa_nil))) (pe_op op_rep (pe_lst (pa_cons pe_bl pa_nil)) pe_int)) (nomark _)) (pss_one (ps_ret pe_bl)) pss_nil))))
      (pss_cons (ps_if (pt_cmpR (op_neD hu) (pe_call GC hr1 (by rfl) mC FC.kp bC .nil pass0 (pa_cons (pe_exm PySem.F.excBase_ValueError (C.msg 16 (by decide) (by decide)).1 (C.msg 16 (by decide) (by decide)).2.1 N.m16 (C.msg 16 (by decide) (by decide)).2.2 (by rfl) (pv 0)) pa_nil)) (pe_op op_rep (pe_lst (pa_cons pe_bl pa_nil)) pe_int) (nomark _)) (pss_one (ps_ret pe_bl)) pss_nil)
      (pss_one (ps_ret (pe_cmpR (op_eqD hu) (pe_call GB hr1 (by rfl) mB FB.kp bB .nil pass0 (pa_cons (pe_exm PySem.F.excBase_ValueError (C.msg 16 (by decide) (by decide)).1 (C.msg 16 (by decide) (by decide)).2.1 N.m16 (C.msg 16 (by decide) (by decide)).2.2 (by rfl) (pv 0)) pa_nil)) (pe_op op_cat (pe_lst (pa_cons pe_bl (pa_cons pe_bl pa_nil))) (pe_op op_rep (pe_lst (pa_cons pe_bl pa_nil)) pe_int)) (nomark _))))))))), ?_⟩
    refine ⟨_, rfl, fun a0 n0 => ⟨_, rfl, fun a1 n1 => ⟨_, rfl, fun a2 n2 => ⟨_, rfl, fun a3 n3 => ⟨_, rfl, fun a4 n4 => ⟨(by show 5 ≤ sizeLine; decide), fun l0 m0 => ?_⟩⟩⟩⟩⟩⟩
    have c0 := sn (o := exo a0 (cs.getD 0 0) none) n0
    have c1 := sn (o := exo a1 (cs.getD 1 0) none) n1
    have c2 := sn (o := exo a2 (cs.getD 2 0) none) n2
    have c3 := sn (o := exo a3 (cs.getD 3 0) none) n3
    have c4 := sn (o := exo a4 (cs.getD 4 0) none) n4
    have c5 := sn (o := .lst [.ref a0, .ref a1, .ref a2, .ref a3, .ref a4]) m0
    refine ⟨_, rfl, _, rfl, fun a5 n5 => ⟨_, rfl, fun a6 n6 => ⟨_, rfl, fun a7 n7 => ⟨(by show 3 ≤ sizeLine; decide), fun l1 m1 => ?_⟩⟩⟩⟩
    have c6 := sn (o := exo a5 (cs.getD 5 0) none) n5
    have c7 := sn (o := exo a6 (cs.getD 6 0) none) n6
    have c8 := sn (o := exo a7 (cs.getD 7 0) none) n7
    have c9 := sn (o := .lst [.ref a5, .ref a6, .ref a7]) m1
    refine ⟨l0, l1, _, _, rfl, rfl, (((c6.trans c7).trans c8).trans c9) _ _ upd_same, upd_same, (by show 8 ≤ sizeLine; decide), fun l2 m2 => ?_⟩
    have c10 := sn (o := .lst [.ref a0, .ref a1, .ref a2, .ref a3, .ref a4, .ref a5, .ref a6, .ref a7]) m2
    refine ⟨_, rfl, _, rfl, fun a8 n8 => ⟨_, rfl, fun a9 n9 => ⟨(by show 2 ≤ sizeLine; decide), fun l3 m3 => ?_⟩⟩⟩
    have c11 := sn (o := exo a8 (cs.getD 8 0) none) n8
    have c12 := sn (o := exo a9 (cs.getD 9 0) none) n9
    have c13 := sn (o := .lst [.ref a8, .ref a9]) m3
    refine ⟨l2, l3, _, _, rfl, rfl, ((c11.trans c12).trans c13) _ _ upd_same, upd_same, (by show 10 ≤ sizeLine; decide), fun l4 m4 => ?_⟩
    have c14 := sn (o := .lst [.ref a0, .ref a1, .ref a2, .ref a3, .ref a4, .ref a5, .ref a6, .ref a7, .ref a8, .ref a9]) m4
    have f14 : Same _ _ := c14
    have f13 := c13.trans f14
    have f12 := c12.trans f13
    have f11 := c11.trans f12
    have f10 := c10.trans f11
    have f9 := c9.trans f10
    have f8 := c8.trans f9
    have f7 := c7.trans f8
    have f6 := c6.trans f7
    have f5 := c5.trans f6
    have f4 := c4.trans f5
    have f3 := c3.trans f4
    have f2 := c2.trans f3
    have f1 := c1.trans f2
    have f0 := c0.trans f1
    have e0 := f1 a0 _ upd_same
    have e1 := f2 a1 _ upd_same
    have e2 := f3 a2 _ upd_same
    have e3 := f4 a3 _ upd_same
    have e4 := f5 a4 _ upd_same
    have e5 := f7 a5 _ upd_same
    have e6 := f8 a6 _ upd_same
    have e7 := f9 a7 _ upd_same
    have e8 := f12 a8 _ upd_same
    have e9 := f13 a9 _ upd_same
    have s0 := f0
    have all : ∀ i, i < 10 → ∃ a, ([.ref a0, .ref a1, .ref a2, .ref a3, .ref a4, .ref a5, .ref a6, .ref a7, .ref a8, .ref a9] : List V)[i]? = some (.ref a) ∧ ExAt _ a (cs.getD i 0) none := fun i hi => match i, hi with
      | 0, _ => ⟨a0, rfl, e0⟩
      | 1, _ => ⟨a1, rfl, e1⟩
      | 2, _ => ⟨a2, rfl, e2⟩
      | 3, _ => ⟨a3, rfl, e3⟩
      | 4, _ => ⟨a4, rfl, e4⟩
      | 5, _ => ⟨a5, rfl, e5⟩
      | 6, _ => ⟨a6, rfl, e6⟩
      | 7, _ => ⟨a7, rfl, e7⟩
      | 8, _ => ⟨a8, rfl, e8⟩
      | 9, _ => ⟨a9, rfl, e9⟩
      | n + 10, h => absurd h (by omega)
    refine ⟨10, rfl, by decide, by decide, for_range (n := 10) (fun i σ H' => ∃ v2 : Option V, σ = [some (.str x), some (.ref l4), v2, none] ∧ Same _ H') ⟨none, rfl, fun _ _ e => e⟩ ?_ ?_⟩
    · rintro i σ H' hi ⟨v2, rfl, sH⟩
      obtain ⟨a, ha, hx⟩ := all i hi
      have hl4 := sH l4 _ upd_same
      refine ⟨_, rfl, _, rfl, l4, _, _, .ref a, rfl, rfl, SqL.of hl4, at_of (by omega) ha, a, i, none, rfl, by omega, hx.same sH, fun p H2 s2 hp => ?_⟩
      refine ⟨16, rfl, by decide, by decide, fun D hD => lc_range (n := 16) (fun j Hc => Hc = upd H2 D (.lst (((List.range j).map fun q => decide (q = i)).map V.bl))) rfl (fun j Hc hj e => ?_) (fun Hc e => ?_)⟩
      · subst e
        refine ⟨rfl, _, rfl, _, rfl, rfl, _, upd_same, ?_, ?_⟩
        · rw [List.length_map, List.length_map, List.length_range, sizeLine_eq]; omega
        · rw [turn_row]
          funext b
          by_cases hb : b = D
          · rw [hb, upd_same, upd_same]
          · rw [upd_ne hb, upd_ne hb, upd_ne hb]
      · subst e
        have hpD := sn (o := .lst (((List.range 16).map fun q => decide (q = i)).map V.bl)) hD p _ hp
        refine ⟨_, _, dp_bools (bs := row i) hpD, dp_bools (bs := row i) upd_same, shp_bools _, shp_bools _, _, rfl, ifF (by rw [eqv_bools] <;> rfl) ?_⟩
        have s3 := (sH.trans s2).trans (sn (o := .lst (((List.range 16).map fun q => decide (q = i)).map V.bl)) hD)
        refine ⟨_, rfl, _, rfl, l4, _, _, .ref a, rfl, rfl, SqL.of (s3 l4 _ upd_same), at_of (by omega) ha, a, i, none, rfl, by omega, hx.same s3, fun p2 H3 s4 hp2 => ?_⟩
        rw [due_msg i hi] at hp2
        refine ⟨(by show 2 ≤ sizeLine; decide), fun b1 k1 => ⟨(by show 1 ≤ sizeLine; decide), fun b2 k2 => ?_⟩⟩
        refine ⟨b2, 6, _, rfl, rfl, upd_same, by decide, by decide, (by show 1 * 6 ≤ sizeLine; decide), fun b3 k3 => ?_⟩
        have t1 := sn (o := .lst [.bl true, .bl true]) k1
        have t2 := sn (o := .lst [.bl false]) k2
        have t3 := sn (o := .lst (List.replicate (6 : Int).toNat [V.bl false]).flatten) k3
        refine ⟨b1, b3, _, _, rfl, rfl, (t2.trans t3) _ _ upd_same, upd_same, (by show 8 ≤ sizeLine; decide), fun b4 k4 => ?_⟩
        have t4 := sn (o := .lst ([V.bl true, V.bl true] ++ (List.replicate (6 : Int).toNat [V.bl false]).flatten)) k4
        refine ⟨_, _, dp_bools (bs := [true, true, false, false, false, false, false, false]) ((((t1.trans t2).trans t3).trans t4) p2 _ hp2), dp_bools (bs := [true, true, false, false, false, false, false, false]) upd_same, shp_bools _, shp_bools _, _, rfl, ifF (by rw [eqv_bools] <;> rfl) ?_⟩
        exact ⟨_, rfl, (s3.trans s4).trans (((t1.trans t2).trans t3).trans t4)⟩
    · rintro σ H' ⟨v2, rfl, sH⟩
      refine ⟨_, rfl, fun aL nL => ⟨aL, 16, none, rfl, by decide, upd_same, fun p H2 s2 hp => ?_⟩⟩
      refine ⟨(by show 1 ≤ sizeLine; decide), fun b1 k1 => ⟨b1, 16, _, rfl, rfl, upd_same, by decide, by decide, (by show 1 * 16 ≤ sizeLine; decide), fun b2 k2 => ?_⟩⟩
      have t1 := sn (o := .lst [.bl false]) k1
      have t2 := sn (o := .lst (List.replicate (16 : Int).toNat [V.bl false]).flatten) k2
      refine ⟨_, _, dp_bools (bs := row 16) ((t1.trans t2) p _ hp), dp_bools (bs := row 16) upd_same, shp_bools _, shp_bools _, _, rfl, ifF (by rw [eqv_bools] <;> rfl) ?_⟩
      have s5 := ((((s0.trans sH).trans (sn (o := exo aL (cs.getD 16 0) none) nL)).trans s2).trans t1).trans t2
      refine ⟨_, rfl, fun aM nM => ⟨aM, 16, none, rfl, by decide, upd_same, fun p2 H3 s4 hp2 => ?_⟩⟩
      refine ⟨(by show 2 ≤ sizeLine; decide), fun b1 k1 => ⟨(by show 1 ≤ sizeLine; decide), fun b2 k2 => ?_⟩⟩
      refine ⟨b2, 6, _, rfl, rfl, upd_same, by decide, by decide, (by show 1 * 6 ≤ sizeLine; decide), fun b3 k3 => ?_⟩
      have t1 := sn (o := .lst [.bl true, .bl true]) k1
      have t2 := sn (o := .lst [.bl false]) k2
      have t3 := sn (o := .lst (List.replicate (6 : Int).toNat [V.bl false]).flatten) k3
      refine ⟨b1, b3, _, _, rfl, rfl, (t2.trans t3) _ _ upd_same, upd_same, (by show 8 ≤ sizeLine; decide), fun b4 k4 => ?_⟩
      have t4 := sn (o := .lst ([V.bl true, V.bl true] ++ (List.replicate (6 : Int).toNat [V.bl false]).flatten)) k4
      refine ⟨_, _, dp_bools (bs := due 16) ((((t1.trans t2).trans t3).trans t4) p2 _ hp2), dp_bools (bs := due 16) upd_same, shp_bools _, shp_bools _, ?_⟩
      rw [eqv_bools]
      exact k _ (((s5.trans (sn (o := exo aM (cs.getD 16 0) none) nM)).trans s4).trans (((t1.trans t2).trans t3).trans t4))
end
end K0
/-! The six errors that keep a value. -/
namespace K0
open PySem PySem.Spec PyProof.Rows L2

theorem init_call {B n i : String} (c : ExcCallFacts B n i) : InitF B i := ⟨c.init, c.initEntry, c.initSplit, c.initKind, c.initRow, c.noStar⟩
/-- what the written part says of one of them -/
structure OneX (K : PySem.W.Frag) (C fI : Addr) (B Bn newId initId : String) (f : PySem.Str) : Prop where
  own : OwnX K C B Bn newId f
  iC : PySem.W.findIn K (.ref C) "__init__" = some (some (.ref fI))
  tI : PySem.W.typeIn K (.ref fI) = some (.type "function")
  vV : PySem.W.findCls K (.type B) (.type "type") "__init__" = some (.val (.builtin initId))
section
variable {P : Program} {w : World} {K : PySem.W.Frag} {mg : PySem.Str → Option Value} {base : Heap} {cs : List Addr}
abbrev sI0 : Stmt := inClass (top 12) 0
theorem scI0 : FnScope ["self", "value"] ["self", "value"] (defScope sI0) := ⟨rfl, rfl, rfl, by decide +kernel, rfl, by decide +kernel, by decide +kernel⟩
theorem ok_i0 {C f : Addr} {fd : FuncData} (F : Fun K "__init__" "InvalidNumber.__init__" sI0 f fd) (N : Nms mg cs) (O : OneX K C f "IndexError" "IndexError" "IndexError.__new__" "IndexError.__init__" "value") : FnOk P w K mg base CX0 1 f fd ["self", "value"] (spInit K "IndexError" "IndexError" "IndexError.__new__" "value") := by
  refine F.ok scI0 (fun vs H Q E h => ?_) (fun cdv A outer s H vs Q E hr h => ?_)
  · obtain ⟨a, D, v, rfl, _⟩ := h
    rfl
  · obtain ⟨a, D, v, rfl, T, ha, k⟩ := h
    refine ⟨_, pss_cons (ps_expr (pe_binit (B := "IndexError") (Bn := "IndexError") (newId := "IndexError.__new__") (f := "value") (init_call PySem.F.excBase_IndexError.toExcCallFacts) (by rfl) N.b2 (by decide +kernel) (by decide) (by decide) (by kernel_rfl) (by decide +kernel) O.vV (by decide +kernel) (pa_cons (pv 0) (pa_cons (pv 1) pa_nil))))
      (pss_one (ps_first (B := "IndexError") (Bn := "IndexError") (newId := "IndexError.__new__") (f := "value") (pv 0) (pv 1))), ?_⟩
    exact ⟨_, rfl, _, rfl, a, D, [v], rfl, (by show 1 ≤ 1000; decide), T, ha, _, rfl, _, rfl, a, D, rfl, T, ha, fun dx n ne => k dx n ne⟩
abbrev sI1 : Stmt := inClass (top 13) 0
theorem scI1 : FnScope ["self", "name"] ["self", "name"] (defScope sI1) := ⟨rfl, rfl, rfl, by decide +kernel, rfl, by decide +kernel, by decide +kernel⟩
theorem ok_i1 {C f : Addr} {fd : FuncData} (F : Fun K "__init__" "UnknownName.__init__" sI1 f fd) (N : Nms mg cs) (O : OneX K C f "KeyError" "LookupError" "LookupError.__new__" "KeyError.__init__" "name") : FnOk P w K mg base CX0 1 f fd ["self", "name"] (spInit K "KeyError" "LookupError" "LookupError.__new__" "name") := by
  refine F.ok scI1 (fun vs H Q E h => ?_) (fun cdv A outer s H vs Q E hr h => ?_)
  · obtain ⟨a, D, v, rfl, _⟩ := h
    rfl
  · obtain ⟨a, D, v, rfl, T, ha, k⟩ := h
    refine ⟨_, pss_cons (ps_expr (pe_binit (B := "KeyError") (Bn := "LookupError") (newId := "LookupError.__new__") (f := "name") (InitF.of PyProof.Rows.excClass_KeyError) (by rfl) N.b3 (by decide +kernel) (by decide) (by decide) (by kernel_rfl) (by decide +kernel) O.vV (by decide +kernel) (pa_cons (pv 0) (pa_cons (pv 1) pa_nil))))
      (pss_one (ps_first (B := "KeyError") (Bn := "LookupError") (newId := "LookupError.__new__") (f := "name") (pv 0) (pv 1))), ?_⟩
    exact ⟨_, rfl, _, rfl, a, D, [v], rfl, (by show 1 ≤ 1000; decide), T, ha, _, rfl, _, rfl, a, D, rfl, T, ha, fun dx n ne => k dx n ne⟩
abbrev sI2 : Stmt := inClass (top 14) 0
theorem scI2 : FnScope ["self", "limit"] ["self", "limit"] (defScope sI2) := ⟨rfl, rfl, rfl, by decide +kernel, rfl, by decide +kernel, by decide +kernel⟩
theorem ok_i2 {C f : Addr} {fd : FuncData} (F : Fun K "__init__" "TooMany.__init__" sI2 f fd) (N : Nms mg cs) (O : OneX K C f "OverflowError" "OverflowError" "OverflowError.__new__" "OverflowError.__init__" "limit") : FnOk P w K mg base CX0 1 f fd ["self", "limit"] (spInit K "OverflowError" "OverflowError" "OverflowError.__new__" "limit") := by
  refine F.ok scI2 (fun vs H Q E h => ?_) (fun cdv A outer s H vs Q E hr h => ?_)
  · obtain ⟨a, D, v, rfl, _⟩ := h
    rfl
  · obtain ⟨a, D, v, rfl, T, ha, k⟩ := h
    refine ⟨_, pss_cons (ps_expr (pe_binit (B := "OverflowError") (Bn := "OverflowError") (newId := "OverflowError.__new__") (f := "limit") (init_call PySem.F.excBase_OverflowError.toExcCallFacts) (by rfl) N.b4 (by decide +kernel) (by decide) (by decide) (by kernel_rfl) (by decide +kernel) O.vV (by decide +kernel) (pa_cons (pv 0) (pa_cons (pv 1) pa_nil))))
      (pss_one (ps_first (B := "OverflowError") (Bn := "OverflowError") (newId := "OverflowError.__new__") (f := "limit") (pv 0) (pv 1))), ?_⟩
    exact ⟨_, rfl, _, rfl, a, D, [v], rfl, (by show 1 ≤ 1000; decide), T, ha, _, rfl, _, rfl, a, D, rfl, T, ha, fun dx n ne => k dx n ne⟩
abbrev sI3 : Stmt := inClass (top 15) 0
theorem scI3 : FnScope ["self", "ring"] ["self", "ring"] (defScope sI3) := ⟨rfl, rfl, rfl, by decide +kernel, rfl, by decide +kernel, by decide +kernel⟩
theorem ok_i3 {C f : Addr} {fd : FuncData} (F : Fun K "__init__" "NoOrder.__init__" sI3 f fd) (N : Nms mg cs) (O : OneX K C f "ArithmeticError" "ArithmeticError" "ArithmeticError.__new__" "ArithmeticError.__init__" "ring") : FnOk P w K mg base CX0 1 f fd ["self", "ring"] (spInit K "ArithmeticError" "ArithmeticError" "ArithmeticError.__new__" "ring") := by
  refine F.ok scI3 (fun vs H Q E h => ?_) (fun cdv A outer s H vs Q E hr h => ?_)
  · obtain ⟨a, D, v, rfl, _⟩ := h
    rfl
  · obtain ⟨a, D, v, rfl, T, ha, k⟩ := h
    refine ⟨_, pss_cons (ps_expr (pe_binit (B := "ArithmeticError") (Bn := "ArithmeticError") (newId := "ArithmeticError.__new__") (f := "ring") (init_call PySem.F.excBase_ArithmeticError.toExcCallFacts) (by rfl) N.b6 (by decide +kernel) (by decide) (by decide) (by kernel_rfl) (by decide +kernel) O.vV (by decide +kernel) (pa_cons (pv 0) (pa_cons (pv 1) pa_nil))))
      (pss_one (ps_first (B := "ArithmeticError") (Bn := "ArithmeticError") (newId := "ArithmeticError.__new__") (f := "ring") (pv 0) (pv 1))), ?_⟩
    exact ⟨_, rfl, _, rfl, a, D, [v], rfl, (by show 1 ≤ 1000; decide), T, ha, _, rfl, _, rfl, a, D, rfl, T, ha, fun dx n ne => k dx n ne⟩
abbrev sI4 : Stmt := inClass (top 16) 0
theorem scI4 : FnScope ["self", "step"] ["self", "step"] (defScope sI4) := ⟨rfl, rfl, rfl, by decide +kernel, rfl, by decide +kernel, by decide +kernel⟩
theorem ok_i4 {C f : Addr} {fd : FuncData} (F : Fun K "__init__" "Held.__init__" sI4 f fd) (N : Nms mg cs) (O : OneX K C f "RuntimeError" "RuntimeError" "RuntimeError.__new__" "RuntimeError.__init__" "step") : FnOk P w K mg base CX0 1 f fd ["self", "step"] (spInit K "RuntimeError" "RuntimeError" "RuntimeError.__new__" "step") := by
  refine F.ok scI4 (fun vs H Q E h => ?_) (fun cdv A outer s H vs Q E hr h => ?_)
  · obtain ⟨a, D, v, rfl, _⟩ := h
    rfl
  · obtain ⟨a, D, v, rfl, T, ha, k⟩ := h
    refine ⟨_, pss_cons (ps_expr (pe_binit (B := "RuntimeError") (Bn := "RuntimeError") (newId := "RuntimeError.__new__") (f := "step") (init_call PySem.F.excBase_RuntimeError.toExcCallFacts) (by rfl) N.b5 (by decide +kernel) (by decide) (by decide) (by kernel_rfl) (by decide +kernel) O.vV (by decide +kernel) (pa_cons (pv 0) (pa_cons (pv 1) pa_nil))))
      (pss_one (ps_first (B := "RuntimeError") (Bn := "RuntimeError") (newId := "RuntimeError.__new__") (f := "step") (pv 0) (pv 1))), ?_⟩
    exact ⟨_, rfl, _, rfl, a, D, [v], rfl, (by show 1 ≤ 1000; decide), T, ha, _, rfl, _, rfl, a, D, rfl, T, ha, fun dx n ne => k dx n ne⟩
abbrev sI5 : Stmt := inClass (top 17) 0
theorem scI5 : FnScope ["self", "many"] ["self", "many"] (defScope sI5) := ⟨rfl, rfl, rfl, by decide +kernel, rfl, by decide +kernel, by decide +kernel⟩
theorem ok_i5 {C f : Addr} {fd : FuncData} (F : Fun K "__init__" "NothingToUndo.__init__" sI5 f fd) (N : Nms mg cs) (O : OneX K C f "LookupError" "LookupError" "LookupError.__new__" "LookupError.__init__" "many") : FnOk P w K mg base CX0 1 f fd ["self", "many"] (spInit K "LookupError" "LookupError" "LookupError.__new__" "many") := by
  refine F.ok scI5 (fun vs H Q E h => ?_) (fun cdv A outer s H vs Q E hr h => ?_)
  · obtain ⟨a, D, v, rfl, _⟩ := h
    rfl
  · obtain ⟨a, D, v, rfl, T, ha, k⟩ := h
    refine ⟨_, pss_cons (ps_expr (pe_binit (B := "LookupError") (Bn := "LookupError") (newId := "LookupError.__new__") (f := "many") (init_call PySem.F.excBase_LookupError.toExcCallFacts) (by rfl) N.b7 (by decide +kernel) (by decide) (by decide) (by kernel_rfl) (by decide +kernel) O.vV (by decide +kernel) (pa_cons (pv 0) (pa_cons (pv 1) pa_nil))))
      (pss_one (ps_first (B := "LookupError") (Bn := "LookupError") (newId := "LookupError.__new__") (f := "many") (pv 0) (pv 1))), ?_⟩
    exact ⟨_, rfl, _, rfl, a, D, [v], rfl, (by show 1 ≤ 1000; decide), T, ha, _, rfl, _, rfl, a, D, rfl, T, ha, fun dx n ne => k dx n ne⟩
end
end K0
/-! The six errors asked. -/
namespace K0
open PySem PySem.Spec PyProof.Rows L2

abbrev sVals : Stmt := top 26
abbrev nVals : List PySem.Str := ["_law_kept", "_law_other", "_law_made", "_law_told", "_law_due", "_law_at", "_law_place"]
def spVals : Sp := fun vs H Q _ => ∃ (v u : V) (d e : PyData), vs = [v, u] ∧ Kp H v d ∧ Kp H u e ∧ ∀ H', Same H H' → Q (.bl true) H'
theorem sn2 {H : Hp} {a t : Addr} {o u : HO} (ha : H a = none) (ht : H t = none) (ne : t ≠ a) : Same H (upd (upd H t o) a u) := fun b w e => by
  rw [upd_ne (ne_of_none e ha), upd_ne (ne_of_none e ht)] <;> exact e
theorem exat_made {H : Hp} {a t C : Addr} {f : PySem.Str} {v : V} (ne : t ≠ a) : ExAt (upd (upd H t (exd t [(f, v)])) a (exo a C (some t))) a C (some (f, v)) := ⟨t, upd_same, by rw [upd_ne ne, upd_same]⟩
theorem kp6 {H : Hp} {v u : V} {d e : PyData} (a : Kp H v d) (b : Kp H u e) : KpAll H [v, u, v, u, v, u] [d, e, d, e, d, e] := .cons a (.cons b (.cons a (.cons b (.cons a (.cons b .nil)))))
def dl : Nat → List V
  | 0 => [.int 2, .int 7]
  | 1 => [.int 3, .int 7]
  | 2 => [.int 4, .int 6]
  | 3 => [.int 6]
  | 4 => [.int 5]
  | 5 => [.int 7]
  | _ => []
/-- the i-th error and the i-th list of what is due  -/
def Slot6 (H : Hp) (cs : List Addr) (xs ys : List V) (i : Nat) : Prop := ∃ (a d : Addr) (fv : Option (PySem.Str × V)), xs[i]? = some (.ref a) ∧ ExAt H a (cs.getD (10 + i) 0) fv ∧ ys[i]? = some (.ref d) ∧ H d = some (.lst (dl i))
theorem turn_ten {i j : Nat} : (((List.range j).map fun q => decide (q = 10 + i)).map V.bl) ++ [V.bl (decide (V.int (0 + (j : Int)) = V.int (10 + (0 + (i : Int)))))] = ((List.range (j + 1)).map fun q => decide (q = 10 + i)).map V.bl := by
  have e : decide (V.int (0 + (j : Int)) = V.int (10 + (0 + (i : Int)))) = decide (j = 10 + i) := by
    by_cases h : j = 10 + i
    · rw [decide_eq_true h, decide_eq_true (by rw [h]; congr 1; omega)]
    · rw [decide_eq_false h, decide_eq_false (fun q => h (by injection q with q; omega))]
  rw [e, List.range_succ, List.map_append, List.map_append] <;> rfl
theorem in_due : ∀ (i : Nat), i < 6 → ∀ (j : Nat), j < 8 → inV (.int (0 + (j : Int))) (dl i) = dueB (10 + i) j := by decide
theorem flat_due : ∀ i, i < 6 → (dl i).all flatV = true := by decide
theorem turn_due {i j : Nat} (hi : i < 6) (hj : j < 8) : (((List.range j).map fun q => dueB (10 + i) q).map V.bl) ++ [V.bl (inV (.int (0 + (j : Int))) (dl i))] = ((List.range (j + 1)).map fun q => dueB (10 + i) q).map V.bl := by
  rw [in_due i hi j hj, List.range_succ, List.map_append, List.map_append] <;> rfl
section
variable {P : Program} {w : World} {K : PySem.W.Frag} {mg : PySem.Str → Option Value} {base : Heap} {cs : List Addr}
theorem scVals : FnScope nVals ["_law_kept", "_law_other"] (defScope sVals) := ⟨rfl, rfl, rfl, by decide +kernel, rfl, by decide +kernel, by decide +kernel⟩
theorem ok_vals {f fC fB i0 i1 i2 i3 i4 i5 : Addr} {fd fdC fdB d0 d1 d2 d3 d4 d5 : FuncData} (F : Fun K "_law_values_right" "_law_values_right" sVals f fd) (T : Bare mg) (N : Nms mg cs) (C : Cls K cs) (FC : Fun K "_law_classes" "_law_classes" sClasses fC fdC) (bC : Binds K fdC ["_law_error"] []) (mC : mg "_law_classes" = some (.ref fC))
    (FB : Fun K "_law_bases" "_law_bases" sBases fB fdB) (bB : Binds K fdB ["_law_error"] []) (mB : mg "_law_bases" = some (.ref fB))
    (F0 : Fun K "__init__" "InvalidNumber.__init__" sI0 i0 d0) (O0 : OneX K (cs.getD 10 0) i0 "IndexError" "IndexError" "IndexError.__new__" "IndexError.__init__" "value") (b0 : Binds K d0 ["self", "value"] []) (F1 : Fun K "__init__" "UnknownName.__init__" sI1 i1 d1) (O1 : OneX K (cs.getD 11 0) i1 "KeyError" "LookupError" "LookupError.__new__" "KeyError.__init__" "name") (b1 : Binds K d1 ["self", "name"] []) (F2 : Fun K "__init__" "TooMany.__init__" sI2 i2 d2) (O2 : OneX K (cs.getD 12 0) i2 "OverflowError" "OverflowError" "OverflowError.__new__" "OverflowError.__init__" "limit") (b2 : Binds K d2 ["self", "limit"] []) (F3 : Fun K "__init__" "NoOrder.__init__" sI3 i3 d3) (O3 : OneX K (cs.getD 13 0) i3 "ArithmeticError" "ArithmeticError" "ArithmeticError.__new__" "ArithmeticError.__init__" "ring") (b3 : Binds K d3 ["self", "ring"] []) (F4 : Fun K "__init__" "Held.__init__" sI4 i4 d4) (O4 : OneX K (cs.getD 14 0) i4 "RuntimeError" "RuntimeError" "RuntimeError.__new__" "RuntimeError.__init__" "step") (b4 : Binds K d4 ["self", "step"] []) (F5 : Fun K "__init__" "NothingToUndo.__init__" sI5 i5 d5) (O5 : OneX K (cs.getD 15 0) i5 "LookupError" "LookupError" "LookupError.__new__" "LookupError.__init__" "many") (b5 : Binds K d5 ["self", "many"] []) : FnG P w K mg base 3 f fd ["_law_kept", "_law_other"] spVals := by
  have GC : FnOk P w K mg base CX0 1 fC fdC ["_law_error"] (spClasses cs) := ok_classes FC T N C
  have GB : FnOk P w K mg base CX0 1 fB fdB ["_law_error"] (spBases cs) := ok_bases FB T N C
  have G0 := ok_i0 (P := P) (w := w) (base := base) F0 N O0
  have G1 := ok_i1 (P := P) (w := w) (base := base) F1 N O1
  have G2 := ok_i2 (P := P) (w := w) (base := base) F2 N O2
  have G3 := ok_i3 (P := P) (w := w) (base := base) F3 N O3
  have G4 := ok_i4 (P := P) (w := w) (base := base) F4 N O4
  have G5 := ok_i5 (P := P) (w := w) (base := base) F5 N O5
  refine fng_of F scVals (fun vs H Q E h => ?_) (fun cdv A outer s H vs Q E hgA hr h => ?_)
  · obtain ⟨v, u, d, e, rfl, _⟩ := h
    rfl
  · obtain ⟨v, u, dv, du, rfl, kv, ku, k⟩ := h
    have hr1 : Room 1 _ := hr.mono (by decide)
    have hu := hr.units
    have hg : (A.deeper (envOfC "_law_values_right" (defScope sVals) s.heap.objs.size f cdv)).guards = some [] := hgA
    refine ⟨_, (pss_cons (ps_set (i := 2) scVals.nd rfl (Or.inl rfl) (pe_lst (pa_cons (pe_exi (CX := CX0) PySem.F.excBase_IndexError O0.own O0.iC O0.tI G0 hr b0 (by rfl) N.m10 (pv 0)) (pa_cons (pe_exi (CX := CX0) PySem.F.excBase_LookupError O1.own O1.iC O1.tI G1 hr b1 (by rfl) N.m11 (pv 1)) (pa_cons (pe_exi (CX := CX0) PySem.F.excBase_OverflowError O2.own O2.iC O2.tI G2 hr b2 (by rfl) N.m12 (pv 0)) (pa_cons (pe_exi (CX := CX0) PySem.F.excBase_ArithmeticError O3.own O3.iC O3.tI G3 hr b3 (by rfl) N.m13 (pv 1)) (pa_cons (pe_exi (CX := CX0) PySem.F.excBase_RuntimeError O4.own O4.iC O4.tI G4 hr b4 (by rfl) N.m14 (pv 0)) (pa_cons (pe_exi (CX := CX0) PySem.F.excBase_LookupError O5.own O5.iC O5.tI G5 hr b5 (by rfl) N.m15 (pv 1)) pa_nil))))))))
      (pss_cons (ps_set (i := 3) scVals.nd rfl (Or.inl rfl) (pe_lst (pa_cons (pe_exf (pe_ix ix_list (pv 2) pe_int (fun _ _ => rfl))) (pa_cons (pe_exf (pe_ix ix_list (pv 2) pe_int (fun _ _ => rfl))) (pa_cons (pe_exf (pe_ix ix_list (pv 2) pe_int (fun _ _ => rfl))) (pa_cons (pe_exf (pe_ix ix_list (pv 2) pe_int (fun _ _ => rfl))) (pa_cons (pe_exf (pe_ix ix_list (pv 2) pe_int (fun _ _ => rfl))) (pa_cons (pe_exf (pe_ix ix_list (pv 2) pe_int (fun _ _ => rfl))) pa_nil))))))))
      (pss_cons (ps_if (pt_cmpR op_ne (pe_callB (call_repr hg hr) (by rfl) T.rep (by decide +kernel) (pa_cons (pv 3) pa_nil)) (pe_callB (call_repr hg hr) (by rfl) T.rep (by decide +kernel) (pa_cons (pe_op op_rep (pe_lst (pa_cons (pv 0) (pa_cons (pv 1) pa_nil))) pe_int) pa_nil)) (nomark _)) (pss_one (ps_ret pe_bl)) pss_nil)
      (pss_cons (ps_set (i := 4) scVals.nd rfl (Or.inr rfl) (pe_lst (pa_cons (pe_lst (pa_cons pe_int (pa_cons pe_int pa_nil))) (pa_cons (pe_lst (pa_cons pe_int (pa_cons pe_int pa_nil))) (pa_cons (pe_lst (pa_cons pe_int (pa_cons pe_int pa_nil))) (pa_cons (pe_lst (pa_cons pe_int pa_nil)) (pa_cons (pe_lst (pa_cons pe_int pa_nil)) (pa_cons (pe_lst (pa_cons pe_int pa_nil)) pa_nil))))))))
      (pss_cons (ps_for PassesOwn.never rfl (pi_range1 (by rfl) T.rng (pa_cons pe_int pa_nil)) (pg_name (i := 5) scVals.nd rfl (Or.inr rfl))
        (pss_cons (ps_if (pt_cmpR (op_neD hu) (pe_call GC hr1 (by rfl) mC FC.kp bC .nil pass0 (pa_cons (pe_ix ix_list (pv 2) (pv 5) (fun _ _ => rfl)) pa_nil)) (pe_lc (own := [("_law_place", 6)]) (g := gName 6) (tt := tYes) rfl scVals.nd (pi_range1 (by rfl) T.rng (pa_cons pe_int pa_nil)) (blkOk_by (N := nVals) (sc := defScope sVals) (by decide +kernel)) (fun _ _ _ _ _ => pg_name (i := 6) scVals.nd rfl (Or.inl rfl)) (fun _ _ _ _ _ => pts_nil) (fun _ _ _ _ _ => pe_cmpR op_eq (pv 6) (pe_op op_add pe_int (pv 5)) (nomark _))) (nomark _)) (pss_one (ps_ret pe_bl)) pss_nil)
      (pss_one (ps_if (pt_cmpR (op_neD hu) (pe_call GB hr1 (by rfl) mB FB.kp bB .nil pass0 (pa_cons (pe_ix ix_list (pv 2) (pv 5) (fun _ _ => rfl)) pa_nil)) (pe_lc (own := [("_law_place", 6)]) (g := gName 6) (tt := tYes) rfl scVals.nd (pi_range1 (by rfl) T.rng (pa_cons pe_int pa_nil)) (blkOk_by (N := nVals) (sc := defScope sVals) (by decide +kernel)) (fun _ _ _ _ _ => pg_name (i := 6) scVals.nd rfl (Or.inl rfl)) (fun _ _ _ _ _ => pts_nil) (fun _ _ _ _ _ => pe_cmpR (r := rIn K false) (by exact op_in_seq) (pv 6) (pe_ix (r := rIxL K) (by exact ix_list) (pv 4) (pv 5) (fun _ _ => rfl)) (by rfl))) (nomark _)) (pss_one (ps_ret pe_bl)) pss_nil))))
      (pss_one (ps_ret pe_bl))))))), ?_⟩
    refine ⟨_, rfl, fun a0 t0 na0 nt0 ne0 => ⟨_, rfl, fun a1 t1 na1 nt1 ne1 => ⟨_, rfl, fun a2 t2 na2 nt2 ne2 => ⟨_, rfl, fun a3 t3 na3 nt3 ne3 => ⟨_, rfl, fun a4 t4 na4 nt4 ne4 => ⟨_, rfl, fun a5 t5 na5 nt5 ne5 => ⟨(by show 6 ≤ sizeLine; decide), fun l0 m0 => ?_⟩⟩⟩⟩⟩⟩⟩
    have c0 := sn2 (o := exd t0 [("value", v)]) (u := exo a0 (cs.getD 10 0) (some t0)) na0 nt0 ne0
    have c1 := sn2 (o := exd t1 [("name", u)]) (u := exo a1 (cs.getD 11 0) (some t1)) na1 nt1 ne1
    have c2 := sn2 (o := exd t2 [("limit", v)]) (u := exo a2 (cs.getD 12 0) (some t2)) na2 nt2 ne2
    have c3 := sn2 (o := exd t3 [("ring", u)]) (u := exo a3 (cs.getD 13 0) (some t3)) na3 nt3 ne3
    have c4 := sn2 (o := exd t4 [("step", v)]) (u := exo a4 (cs.getD 14 0) (some t4)) na4 nt4 ne4
    have c5 := sn2 (o := exd t5 [("many", u)]) (u := exo a5 (cs.getD 15 0) (some t5)) na5 nt5 ne5
    have c6 := sn (o := .lst [.ref a0, .ref a1, .ref a2, .ref a3, .ref a4, .ref a5]) m0
    have f6 := c6
    have f5 := c5.trans f6
    have f4 := c4.trans f5
    have f3 := c3.trans f4
    have f2 := c2.trans f3
    have f1 := c1.trans f2
    have f0 := c0.trans f1
    have e0 := (exat_made (C := cs.getD 10 0) (f := "value") (v := v) ne0).same f1
    have e1 := (exat_made (C := cs.getD 11 0) (f := "name") (v := u) ne1).same f2
    have e2 := (exat_made (C := cs.getD 12 0) (f := "limit") (v := v) ne2).same f3
    have e3 := (exat_made (C := cs.getD 13 0) (f := "ring") (v := u) ne3).same f4
    have e4 := (exat_made (C := cs.getD 14 0) (f := "step") (v := v) ne4).same f5
    have e5 := (exat_made (C := cs.getD 15 0) (f := "many") (v := u) ne5).same f6
    refine ⟨_, rfl, l0, _, _, .ref a0, rfl, rfl, SqL.of upd_same, rfl, a0, cs.getD 10 0, _, rfl, e0, C.exc 10 (by decide), O0.own.noF, _, rfl, l0, _, _, .ref a1, rfl, rfl, SqL.of upd_same, rfl, a1, cs.getD 11 0, _, rfl, e1, C.exc 11 (by decide), O1.own.noF, _, rfl, l0, _, _, .ref a2, rfl, rfl, SqL.of upd_same, rfl, a2, cs.getD 12 0, _, rfl, e2, C.exc 12 (by decide), O2.own.noF, _, rfl, l0, _, _, .ref a3, rfl, rfl, SqL.of upd_same, rfl, a3, cs.getD 13 0, _, rfl, e3, C.exc 13 (by decide), O3.own.noF, _, rfl, l0, _, _, .ref a4, rfl, rfl, SqL.of upd_same, rfl, a4, cs.getD 14 0, _, rfl, e4, C.exc 14 (by decide), O4.own.noF, _, rfl, l0, _, _, .ref a5, rfl, rfl, SqL.of upd_same, rfl, a5, cs.getD 15 0, _, rfl, e5, C.exc 15 (by decide), O5.own.noF, (by show 6 ≤ sizeLine; decide), fun l1 m1 => ?_⟩
    have c7 := sn (o := .lst [v, u, v, u, v, u]) m1
    refine ⟨_, rfl, l1, _, _, [dv, du, dv, du, dv, du], rfl, upd_same, kp6 (kv.same (f0.trans c7)) (ku.same (f0.trans c7)), (by show 6 ≤ 100; decide), _, rfl, _, rfl, (by show 2 ≤ sizeLine; decide), fun l2 m2 => ?_⟩
    have c8 := sn (o := .lst [v, u]) m2
    refine ⟨l2, 3, _, rfl, rfl, upd_same, by decide, by decide, (by show 2 * 3 ≤ sizeLine; decide), fun l3 m3 => ?_⟩
    have c9 := sn (o := .lst (List.replicate (3 : Int).toNat [v, u]).flatten) m3
    have g3 := ((f0.trans c7).trans c8).trans c9
    refine ⟨l3, _, _, [dv, du, dv, du, dv, du], rfl, upd_same, kp6 (kv.same g3) (ku.same g3), (by show 6 ≤ 100; decide), rfl, _, rfl, ifF (by simp) ?_⟩
    refine ⟨(by show 2 ≤ sizeLine; decide), fun k0 r0 => ⟨(by show 2 ≤ sizeLine; decide), fun k1 r1 => ⟨(by show 2 ≤ sizeLine; decide), fun k2 r2 => ⟨(by show 1 ≤ sizeLine; decide), fun k3 r3 => ⟨(by show 1 ≤ sizeLine; decide), fun k4 r4 => ⟨(by show 1 ≤ sizeLine; decide), fun k5 r5 => ⟨(by show 6 ≤ sizeLine; decide), fun dd rd => ?_⟩⟩⟩⟩⟩⟩⟩
    have h0 := sn (o := .lst [.int 2, .int 7]) r0
    have h1 := sn (o := .lst [.int 3, .int 7]) r1
    have h2 := sn (o := .lst [.int 4, .int 6]) r2
    have h3 := sn (o := .lst [.int 6]) r3
    have h4 := sn (o := .lst [.int 5]) r4
    have h5 := sn (o := .lst [.int 7]) r5
    have h6 := sn (o := .lst [.ref k0, .ref k1, .ref k2, .ref k3, .ref k4, .ref k5]) rd
    have j6 := h6
    have j5 := h5.trans j6
    have j4 := h4.trans j5
    have j3 := h3.trans j4
    have j2 := h2.trans j3
    have j1 := h1.trans j2
    have j0 := h0.trans j1
    have sf := ((c7.trans c8).trans c9).trans j0
    have all : ∀ i, i < 6 → Slot6 _ cs [.ref a0, .ref a1, .ref a2, .ref a3, .ref a4, .ref a5] [.ref k0, .ref k1, .ref k2, .ref k3, .ref k4, .ref k5] i := fun i hi => match i, hi with
      | 0, _ => ⟨a0, k0, _, rfl, e0.same sf, rfl, j1 k0 _ upd_same⟩
      | 1, _ => ⟨a1, k1, _, rfl, e1.same sf, rfl, j2 k1 _ upd_same⟩
      | 2, _ => ⟨a2, k2, _, rfl, e2.same sf, rfl, j3 k2 _ upd_same⟩
      | 3, _ => ⟨a3, k3, _, rfl, e3.same sf, rfl, j4 k3 _ upd_same⟩
      | 4, _ => ⟨a4, k4, _, rfl, e4.same sf, rfl, j5 k4 _ upd_same⟩
      | 5, _ => ⟨a5, k5, _, rfl, e5.same sf, rfl, j6 k5 _ upd_same⟩
      | n + 6, h => absurd h (by omega)
    have s0 := f0.trans sf
    refine ⟨6, rfl, by decide, by decide, for_range (n := 6) (fun i σ H' => ∃ v5 : Option V, σ = [some v, some u, some (.ref l0), some (.ref l1), some (.ref dd), v5, none] ∧ Same _ H') ⟨none, rfl, fun _ _ e => e⟩ ?_ ?_⟩
    · rintro i σ H' hi ⟨v5, rfl, sH⟩
      obtain ⟨a, d, fv, ha, hx, hd, hdl⟩ := all i hi
      have hl := sf l0 _ upd_same
      refine ⟨_, rfl, _, rfl, l0, _, _, .ref a, rfl, rfl, SqL.of (sH l0 _ hl), at_of (by omega) ha, a, 10 + i, fv, rfl, by omega, hx.same sH, fun p H2 s2 hp => ?_⟩
      refine ⟨16, rfl, by decide, by decide, fun D hD => lc_range (n := 16) (fun j Hc => Hc = upd H2 D (.lst (((List.range j).map fun q => decide (q = 10 + i)).map V.bl))) rfl (fun j Hc hj e => ?_) (fun Hc e => ?_)⟩
      · subst e
        refine ⟨rfl, _, rfl, _, rfl, _, _, rfl, rfl, rfl, _, upd_same, ?_, ?_⟩
        · rw [List.length_map, List.length_map, List.length_range, sizeLine_eq]; omega
        · rw [turn_ten]
          funext b
          by_cases hb : b = D
          · rw [hb, upd_same, upd_same]
          · rw [upd_ne hb, upd_ne hb, upd_ne hb]
      · subst e
        have hpD := sn (o := .lst (((List.range 16).map fun q => decide (q = 10 + i)).map V.bl)) hD p _ hp
        refine ⟨_, _, dp_bools (bs := row (10 + i)) hpD, dp_bools (bs := row (10 + i)) upd_same, shp_bools _, shp_bools _, _, rfl, ifF (by rw [eqv_bools] <;> rfl) ?_⟩
        have s3 := (sH.trans s2).trans (sn (o := .lst (((List.range 16).map fun q => decide (q = 10 + i)).map V.bl)) hD)
        refine ⟨_, rfl, _, rfl, l0, _, _, .ref a, rfl, rfl, SqL.of (s3 l0 _ hl), at_of (by omega) ha, a, 10 + i, fv, rfl, by omega, hx.same s3, fun p2 H3 s4 hp2 => ?_⟩
        refine ⟨8, rfl, by decide, by decide, fun D2 hD2 => lc_range (n := 8) (fun j Hc => Hc = upd H3 D2 (.lst (((List.range j).map fun q => dueB (10 + i) q).map V.bl))) rfl (fun j Hc hj e => ?_) (fun Hc e => ?_)⟩
        · subst e
          have s5 := (s3.trans s4).trans (sn (o := .lst (((List.range j).map fun q => dueB (10 + i) q).map V.bl)) hD2)
          refine ⟨rfl, _, rfl, _, rfl, _, rfl, dd, _, _, .ref d, rfl, rfl, SqL.of (s5 dd _ upd_same), at_of (by omega) hd, d, dl i, rfl, .inl (SqL.of (s5 d _ hdl)), rfl, flat_due i hi, _, upd_same, ?_, ?_⟩
          · rw [List.length_map, List.length_map, List.length_range, sizeLine_eq]; omega
          · show upd _ D2 (.lst (_ ++ [V.bl (inV (.int (0 + (j : Int))) (dl i))])) = _
            rw [turn_due hi hj]
            funext b
            by_cases hb : b = D2
            · rw [hb, upd_same, upd_same]
            · rw [upd_ne hb, upd_ne hb, upd_ne hb]
        · subst e
          have hpD2 := sn (o := .lst (((List.range 8).map fun q => dueB (10 + i) q).map V.bl)) hD2 p2 _ hp2
          refine ⟨_, _, dp_bools (bs := due (10 + i)) hpD2, dp_bools (bs := due (10 + i)) upd_same, shp_bools _, shp_bools _, _, rfl, ifF (by rw [eqv_bools] <;> rfl) ?_⟩
          exact ⟨_, rfl, (s3.trans s4).trans (sn (o := .lst (((List.range 8).map fun q => dueB (10 + i) q).map V.bl)) hD2)⟩
    · rintro σ H' ⟨v5, rfl, sH⟩
      exact k _ (s0.trans sH)

end
end K0
/-! The law's own text. -/
namespace K0
open PySem PySem.Spec PyProof.Rows L2

abbrev sLaw : Stmt := top 27
def spLaw (K : PySem.W.Frag) : Sp := fun vs H Q _ => ∃ (a : Addr) (ns : List Int), vs = [.ref a] ∧ SqL K H a (ns.map V.int) ∧ ns.length ≤ 63 ∧ ∀ H', Q (.bl true) H'
theorem few_text : (("" : PySem.Str).length ≤ 1000 ∧ ("text" : PySem.Str).length ≤ 1000) := by decide
section
variable {P : Program} {w : World} {K : PySem.W.Frag} {mg : PySem.Str → Option Value} {base : Heap} {cs : List Addr}
theorem scLaw : FnScope ["_law_script", "_law_at", "_law_dice_here", "_law_word"] ["_law_script"] (defScope sLaw) := ⟨rfl, rfl, rfl, by decide +kernel, rfl, by decide +kernel, by decide +kernel⟩
theorem ok_law {f fC fB fD fU fP fV fM fW i0 i1 i2 i3 i4 i5 : Addr} {fd fdC fdB fdD fdU fdP fdV fdM fdW d0 d1 d2 d3 d4 d5 : FuncData} (F : Fun K "law" "law" sLaw f fd) (T : Bare mg) (N : Nms mg cs) (C : Cls K cs) (FC : Fun K "_law_classes" "_law_classes" sClasses fC fdC) (bC : Binds K fdC ["_law_error"] []) (mC : mg "_law_classes" = some (.ref fC))
    (FB : Fun K "_law_bases" "_law_bases" sBases fB fdB) (bB : Binds K fdB ["_law_error"] []) (mB : mg "_law_bases" = some (.ref fB)) (FD : Fun K "_law_dice" "_law_dice" sDice fD fdD) (bD : Binds K fdD ["_law_script", "_law_at"] []) (mD : mg "_law_dice" = some (.ref fD))
    (FU : Fun K "_law_pull" "_law_pull" sPull fU fdU) (bU : Binds K fdU ["_law_dice_here", "_law_total"] []) (mU : mg "_law_pull" = some (.ref fU)) (FP : Fun K "_law_pick" "_law_pick" sPick fP fdP) (bP : Binds K fdP ["_law_dice_here", "_law_items"] []) (mP : mg "_law_pick" = some (.ref fP))
    (FV : Fun K "_law_value" "_law_value" sValue fV fdV) (bV : Binds K fdV ["_law_dice_here"] []) (mV : mg "_law_value" = some (.ref fV)) (FM : Fun K "_law_messages_right" "_law_messages_right" sMsgs fM fdM) (bM : Binds K fdM ["_law_text"] []) (mM : mg "_law_messages_right" = some (.ref fM))
    (FW : Fun K "_law_values_right" "_law_values_right" sVals fW fdW) (bW : Binds K fdW ["_law_kept", "_law_other"] []) (mW : mg "_law_values_right" = some (.ref fW))
    (F0 : Fun K "__init__" "InvalidNumber.__init__" sI0 i0 d0) (O0 : OneX K (cs.getD 10 0) i0 "IndexError" "IndexError" "IndexError.__new__" "IndexError.__init__" "value") (b0 : Binds K d0 ["self", "value"] []) (F1 : Fun K "__init__" "UnknownName.__init__" sI1 i1 d1) (O1 : OneX K (cs.getD 11 0) i1 "KeyError" "LookupError" "LookupError.__new__" "KeyError.__init__" "name") (b1 : Binds K d1 ["self", "name"] []) (F2 : Fun K "__init__" "TooMany.__init__" sI2 i2 d2) (O2 : OneX K (cs.getD 12 0) i2 "OverflowError" "OverflowError" "OverflowError.__new__" "OverflowError.__init__" "limit") (b2 : Binds K d2 ["self", "limit"] []) (F3 : Fun K "__init__" "NoOrder.__init__" sI3 i3 d3) (O3 : OneX K (cs.getD 13 0) i3 "ArithmeticError" "ArithmeticError" "ArithmeticError.__new__" "ArithmeticError.__init__" "ring") (b3 : Binds K d3 ["self", "ring"] []) (F4 : Fun K "__init__" "Held.__init__" sI4 i4 d4) (O4 : OneX K (cs.getD 14 0) i4 "RuntimeError" "RuntimeError" "RuntimeError.__new__" "RuntimeError.__init__" "step") (b4 : Binds K d4 ["self", "step"] []) (F5 : Fun K "__init__" "NothingToUndo.__init__" sI5 i5 d5) (O5 : OneX K (cs.getD 15 0) i5 "LookupError" "LookupError" "LookupError.__new__" "LookupError.__init__" "many") (b5 : Binds K d5 ["self", "many"] []) : FnG P w K mg base 4 f fd ["_law_script"] (spLaw K) := by
  have GD := ok_dice (P := P) (w := w) (base := base) FD T
  have GP := ok_pick (P := P) (w := w) (base := base) FP T FU bU mU
  have GV := ok_value (P := P) (w := w) (base := base) FV T FU bU mU FP bP mP
  have GM := ok_msgs (P := P) (w := w) (base := base) FM T N C FC bC mC FB bB mB
  have GW := ok_vals (P := P) (w := w) (base := base) FW T N C FC bC mC FB bB mB F0 O0 b0 F1 O1 b1 F2 O2 b2 F3 O3 b3 F4 O4 b4 F5 O5 b5
  refine fng_of F scLaw (fun vs H Q E h => ?_) (fun cdv A outer s H vs Q E hgA hr3 h => ?_)
  · obtain ⟨a, ns, rfl, _⟩ := h
    rfl
  · obtain ⟨a, ns, rfl, hL, hlen, k⟩ := h
    have hr1 : Room 1 _ := hr3.mono (by decide)
    have hr2 : Room 2 _ := hr3.mono (by decide)
    have hg : (A.deeper (envOfC "law" (defScope sLaw) s.heap.objs.size f cdv)).guards = some [] := hgA
    refine ⟨_, (pss_cons (ps_for PassesOwn.never rfl (pi_range1 (by rfl) T.rng (pa_cons (pe_callB (call_max2 rfl) (by rfl) T.max (by decide +kernel) (pa_cons pe_int (pa_cons (pe_callB (call_min2 rfl) (by rfl) T.min (by decide +kernel) (pa_cons pe_int (pa_cons (pe_callB call_len_seq (by rfl) T.len PySem.boot_len (pa_cons (pv 0) pa_nil)) pa_nil))) pa_nil))) pa_nil)) (pg_name (i := 1) scLaw.nd rfl (Or.inl rfl))
        (pss_cons (ps_set (i := 2) scLaw.nd rfl (Or.inl rfl) (pe_call GD hr1 (by rfl) mD FD.kp bD .nil pass0 (pa_cons (pv 0) (pa_cons (pv 1) pa_nil))))
      (pss_cons (ps_set (i := 3) scLaw.nd rfl (Or.inl rfl) (pe_call GP hr2 (by rfl) mP FP.kp bP .nil pass0 (pa_cons (pv 2) (pa_cons (pe_lst (pa_cons pe_str (pa_cons pe_str (pa_cons pe_str (pa_cons (pe_op op_times pe_str pe_int) pa_nil))))) pa_nil))))
      (pss_one (ps_if (PW.pt (pw_or (pt_not (pt_val (pe_call GM hr2 (by rfl) mM FM.kp bM .nil pass0 (pa_cons (pv 3) pa_nil)))) (pw_or1 (pt_not (pt_val (pe_callG GW hg hr3 (by rfl) mW FW.kp bW (pa_cons (pe_call GV hr3 (by rfl) mV FV.kp bV .nil pass0 (pa_cons (pv 2) pa_nil)) (pa_cons (pe_call GV hr3 (by rfl) mV FV.kp bV .nil pass0 (pa_cons (pv 2) pa_nil)) pa_nil)))))))) (pss_one (ps_ret pe_bl)) pss_nil)))))
      (pss_one (ps_ret pe_bl))), ?_⟩
    refine ⟨_, rfl, a, _, rfl, .inl hL, _, _, rfl, _, _, rfl, _, rfl, ?_, ?_, for_range (fun i σ H' => ∃ v1 v2 v3 : Option V, σ = [some (.ref a), v1, v2, v3] ∧ Same H H') ⟨none, none, none, rfl, fun _ _ e => e⟩ ?_ ?_⟩
    · split <;> split <;> omega
    · rw [List.length_map]
      split <;> split <;> omega
    · rintro i σ H0 hi ⟨v1, v2, v3, rfl, s0⟩
      refine ⟨_, rfl, _, rfl, a, ns, _, rfl, s0.seq hL, by omega, by omega, fun p x y H1 s1 hp D => ?_⟩
      refine ⟨_, rfl, _, _, rfl, rfl, by decide, by decide, by decide, fun o ho hc => ⟨(by show 4 ≤ sizeLine; decide), fun q hq => ?_⟩⟩
      have pq : p ≠ q := ne_of_none D.at_ hq
      have hp1 : ∀ z, (upd H1 q z) p = some (.lst [.int x, .int y, .int 0]) := fun z => by rw [upd_ne pq] <;> exact D.at_
      refine ⟨p, q, x, y, 0, _, rfl, ⟨hp1 _, D.x0, D.x1, D.y0, D.y1, D.z0⟩, pq, upd_same, by show 0 < 4; decide, by show 4 < 1000; decide, fun j v x' z' H2 hv D2 hz2 hk2 => ?_⟩
      obtain ⟨t, rfl⟩ : ∃ t, v = .str t := match j, hv with
        | 0, hv => by cases hv; exact ⟨_, rfl⟩
        | 1, hv => by cases hv; exact ⟨_, rfl⟩
        | 2, hv => by cases hv; exact ⟨_, rfl⟩
        | 3, hv => by cases hv; exact ⟨_, rfl⟩
        | j + 4, hv => by simp at hv
      have keep : ∀ {Ha Hb : Hp}, (∀ b o, b ≠ p → Ha b = some o → Hb b = some o) → Same H Ha → Same H Hb := fun {Ha Hb} g sa b o e => g b o (ne_of_none (s0 b o e) hp) (sa b o e)
      have u2 : Same H H2 := keep hk2 ((s0.trans s1).trans (sn hq))
      refine ⟨_, rfl, t, rfl, fun H3 s3 => ⟨true, rfl, ifF rfl ?_⟩⟩
      have D3 : Dice H3 p x' y z' := ⟨s3 p _ D2.at_, D2.x0, D2.x1, D2.y0, D2.y1, D2.z0⟩
      refine ⟨_, rfl, p, x', y, z', rfl, D3, fun va da x4 z4 H4 ka D4 hz4 hk4 => ?_⟩
      refine ⟨_, rfl, p, x4, y, z4, rfl, D4, fun vb db x5 z5 H5 kb D5 hz5 hk5 => ?_⟩
      refine ⟨va, vb, da, db, rfl, ka.but D4 hk5, kb, fun H6 s6 => ⟨true, rfl, ?_⟩⟩
      exact ⟨_, _, _, rfl, (keep hk5 (keep hk4 (u2.trans s3))).trans s6⟩
    · rintro σ H' ⟨v1, v2, v3, rfl, s0⟩
      exact k _
end
end K0
/-! The end of a law whose def is called where no repr is under way. -/
namespace K0
open PySem PySem.Spec PyProof.Rows L2

theorem law_g {P : Program} {w : World} {K : PySem.W.Frag} {mg mb : PySem.Str → Option Value} {k : Nat} {fa a : Addr} {fd : FuncData} {x : PySem.Str} {sp : Sp} {s₁ : Shared} {vs : List Value} {ns : List Int}
    (KX : K.In s₁.heap) (hns : s₁.heap.Ns mainGlobals mg) (hb : s₁.heap.Ns builtinsNs mb) (hbb : ∀ x : PySem.Str, x ≠ "__name__" → mb x = bootBuiltins x) (hlim : s₁.heap.NoLimit) (hg : s₁.gens = #[]) (ha : s₁.heap.get? a = some { cls := .type "list", data := .seq vs.toArray }) (hi : IntsAre vs ns) (hl : ns.length ≤ sizeLine) (hr : Room k callerA)
    (F : ∀ base : Heap, K.In base → base.Ns mainGlobals mg → FnG P w K mg base k fa fd [x] sp) (hbind : ∀ (s : Shared) (u : Value), BindsTo s fd ⟨[u], []⟩ [(x, u)]) (hsp : ∀ H : Hp, Only H → SqL K H a (ns.map V.int) → sp [.ref a] H (fun v _ => v = .bl true) fun _ _ _ => False) :
    codeAny (model P w) callerA (.call (.ref fa) ⟨[.ref a], []⟩) (fun r s' => r = .ok (.ret (.bool true)) ∧ OldK s₁.heap s'.heap ∧ s'.os = s₁.os ∧ AllBare s'.gens) s₁ := by
  have rv := vals_ints hi; have lenV := hi.length
  have core : ∀ H : Hp, Only H → SqL K H a (ns.map V.int) → HOk P w H s₁.heap → (∀ b, H b ≠ none → b = a) → (H a ≠ none → K.lookup a = none) → codeAny (model P w) callerA (.call (.ref fa) ⟨[.ref a], []⟩) (fun r s' => r = .ok (.ret (.bool true)) ∧ OldK s₁.heap s'.heap ∧ s'.os = s₁.os ∧ AllBare s'.gens) s₁ := by
    intro H hO hS hok hA hK
    have base_of : ∀ {b : Addr} {o : Obj}, s₁.heap.get? b = some o → H b = none → (hidT s₁.heap H).get? b = some o := fun e n => hidT_get e n
    have noA : ∀ {b : Addr} {o : Obj} {es : Array DictEntry} {ep : Nat}, s₁.heap.get? b = some o → o.data = .dict es ep → H b = none := fun {b o es ep} e d => by
      cases q : H b with
      | none => rfl
      | some u =>
        have e' : b = a := hA b (by rw [q] <;> simp)
        subst e'; rw [ha] at e; cases e
        have d' : Data.seq vs.toArray _ = Data.dict es ep := d
        cases d'
    have nsK : ∀ {b : Addr} {m : PySem.Str → Option Value}, s₁.heap.Ns b m → (hidT s₁.heap H).Ns b m := fun {b m} ⟨o, es, ep, e, d, r⟩ => ⟨o, es, ep, base_of e (noA e d), d, r⟩
    have hKb : K.In (hidT s₁.heap H) := fun b o e => base_of (KX b o e) (by
      cases q : H b with
      | none => rfl
      | some u =>
        have e' : b = a := hA b (by rw [q] <;> simp)
        subst e'; rw [hK (by rw [q] <;> simp)] at e; cases e)
    have hM : Mod K mg (hidT s₁.heap H) := ⟨hKb, nsK hns, ⟨mb, nsK hb, hbb⟩, let ⟨mc, h1, h2⟩ := hlim; ⟨mc, nsK h1, h2⟩⟩
    have e0 : Env0 P w K mg (hidT s₁.heap H) callerA [] s₁ H := ⟨rfl, hM, fun b o e => of_hidT e, Nat.le_of_eq (hidT_size _ _), trivial, fun b hb => absurd (show b ∈ ([] : List Addr) from hb) (by simp), hok, .of_eq hg⟩
    refine codeAny_mono ((F _ hKb (nsK hns)).run callerA [] s₁ H ⟨[.ref a], []⟩ [.ref a] [.ref a] _ _ rfl hr e0 (hbind s₁ (.ref a)) (.cons rfl .nil) (hsp H hO hS)) fun r s' h => ?_
    cases r with
    | error e => exact h.elim
    | ok fl =>
      cases fl with
      | next => exact False.elim h
      | brk => exact False.elim h
      | cont => exact False.elim h
      | ret u =>
        obtain ⟨v, H', os, bare, un, hok', r', q⟩ := h
        have q' : v = .bl true := q
        subst q'; obtain rfl : u = Value.bool true := r'
        refine ⟨rfl, OldK.of_keep fun b o e => ?_, os, bare⟩
        cases q : H b with
        | none => exact un.keep b o e q (by intro z; exact absurd (show b ∈ ([] : List Addr) from z) (by simp)) (by simp)
        | some u =>
          rcases hO b with z | ⟨ob, xs, z⟩
          · rw [q] at z; cases z
          · obtain ⟨e1, _⟩ := hok b _ z
            obtain ⟨e2, _⟩ := hok' b _ (un.frzs b ob _ z)
            rw [e] at e1; cases e1; exact e2
  cases hk : K.lookup a with
  | some o =>
    have e := KX a o hk
    rw [ha] at e; cases e
    refine core (fun _ => none) (fun _ => .inl rfl) (.inr ⟨_, vs.toArray, _, hk, rfl, rfl, rfl, by rw [List.size_toArray, lenV] <;> exact hl, by simpa using rv⟩) (fun b u z => by have z' : (none : Option HO) = some u := z; cases z') (fun b z => absurd rfl z) fun z => absurd rfl z
  | none =>
    refine core (fun b => if b = a then some (.frz { cls := .type "list", data := .seq vs.toArray } (.lst (ns.map V.int))) else none) (fun b => ?_) (.inl (.inr ⟨{ cls := .type "list", data := .seq vs.toArray }, if_pos rfl⟩)) (fun b u z => ?_) (fun b z => ?_) fun _ => hk
    · by_cases hb : b = a
      · exact .inr ⟨_, _, if_pos hb⟩
      · exact .inl (if_neg hb)
    · by_cases hb : b = a
      · have z' := (if_pos hb).symm.trans z
        cases z'; subst hb
        exact ⟨ha, by rw [List.length_map] <;> exact hl, vs, _, rv, ha⟩
      · have z' := (if_neg hb).symm.trans z
        cases z'
    · by_cases hb : b = a
      · exact hb
      · exact absurd (if_neg hb) z
theorem walk_g {l : PySem.W.OpenLaw} {n k : Nat} {q : Program} {loose : List PySem.Str} {XP : (PySem.Str → Option Value) → Heap → Prop} {YP : World → Heap → Prop} {d : DefRec} {K : Params → PySem.W.Frag} {sp : World → Sp} {x : PySem.Str} (hn : l.most = some n) (hn2 : n ≤ sizeLine) (hdf : d.params.defaults = []) (hr : Room k callerA)
    (hY : ∀ (w : World) (h : Heap), YP w h → (K w.params).In h) (F : ∀ (w : World) (mg : PySem.Str → Option Value) (fa : Addr) (h : Heap), (K w.params).In h → h.Ns mainGlobals mg → mg d.name = some (.ref fa) →
      ∃ fd : FuncData, (∀ (s : Shared) (u : Value), BindsTo s fd ⟨[u], []⟩ [(x, u)]) ∧ ∀ base : Heap, (K w.params).In base → base.Ns mainGlobals mg → FnG l.prog w (K w.params) mg base k fa fd [x] (sp w))
    (hsp : ∀ (w : World) (H : Hp) (a : Addr) (ns : List Int), ns.length ≤ n → Only H → SqL (K w.params) H a (ns.map V.int) → sp w [.ref a] H (fun v _ => v = .bl true) fun _ _ _ => False) : PySem.W.WalkO q loose XP YP l.row.toRowW d [] (fun f vs => PySem.call f vs) := by
  refine Att.attach_call hn hdf fun w s₀ s₁ mg mb fa o pm cd doc a vs ns G Y ho hd hcd hmg hobj hints hlen hg => ?_
  have KX := hY w _ Y
  obtain ⟨fd, hb, hF⟩ := F w mg fa _ KX G.T.g hmg
  exact law_g KX G.T.g G.T.b G.T.builtins G.T.nolimit hg hobj hints (Nat.le_trans hlen hn2) hr hF hb fun H hO hS => hsp w H a ns hlen hO hS
end K0
/-! What the top has written, and the law. -/
namespace K0
open PySem PySem.Spec PyProof.Rows L2

theorem all_mk {l : PySem.W.OpenLaw} {w : World} {K : PySem.W.Frag} {h : Heap} {mg : PySem.Str → Option Value} {fa C0 C1 C2 C3 C4 C5 C6 C7 C8 C9 C10 C11 C12 C13 C14 C15 C16 i0 i1 i2 i3 i4 i5 fD fU fP fV fC fB fM fW fL : Addr} (X : K.In h) (G : h.Ns mainGlobals mg) (hfa : mg "law" = some (.ref fa))
    {n0 n1 n2 n3 n4 n5 q0 q1 q2 q3 q4 q5 : PySem.Str} {N0 N1 N2 N3 N4 N5 : Addr} {bs0 bs1 bs2 bs3 bs4 bs5 sub0 sub1 sub2 sub3 sub4 sub5 : List Value} {sn0 sn1 sn2 sn3 sn4 sn5 : List PySem.Str} {ab0 ab1 ab2 ab3 ab4 ab5 : Bool} {col0 col1 col2 col3 col4 col5 : Option Bool} {dd0 dd1 dd2 dd3 dd4 dd5 iod0 iod1 iod2 iod3 iod4 iod5 ian0 ian1 ian2 ian3 ian4 ian5 odD odU odP odV odC odB odM odW odL anD anU anP anV anC anB anM anW anL : Option Addr}
    {ma0 ma1 ma2 ma3 ma4 ma5 mb0 mb1 mb2 mb3 mb4 mb5 mc0 mc1 mc2 mc3 mc4 mc5 md0 md1 md2 md3 md4 md5 me0 me1 me2 me3 me4 me5 : Option Value} {isl0 isl1 isl2 isl3 isl4 isl5 slD slU slP slV slC slB slM slW slL : Array (Option Value)}
    {ioc0 ioc1 ioc2 ioc3 ioc4 ioc5 ikV0 ikV1 ikV2 ikV3 ikV4 ikV5 idc0 idc1 idc2 idc3 idc4 idc5 ipm0 ipm1 ipm2 ipm3 ipm4 ipm5 icd0 icd1 icd2 icd3 icd4 icd5 ict0 ict1 ict2 ict3 ict4 ict5 ocD ocU ocP ocV ocC ocB ocM ocW ocL kVD kVU kVP kVV kVC kVB kVM kVW kVL dcD dcU dcP dcV dcC dcB dcM dcW dcL pmD pmU pmP pmV pmC pmB pmM pmW pmL cdD cdU cdP cdV cdC cdB cdM cdW cdL ctD ctU ctP ctV ctC ctB ctM ctW ctL : Value}
    (a0 : PySem.W.nsIn K mainGlobals "InvalidName" = some (some (.ref C0)))
    (a1 : PySem.W.nsIn K mainGlobals "InvalidOrder" = some (some (.ref C1)))
    (a2 : PySem.W.nsIn K mainGlobals "InvalidRun" = some (some (.ref C2)))
    (a3 : PySem.W.nsIn K mainGlobals "InvalidPattern" = some (some (.ref C3)))
    (a4 : PySem.W.nsIn K mainGlobals "InvalidRule" = some (some (.ref C4)))
    (a5 : PySem.W.nsIn K mainGlobals "InvalidMarking" = some (some (.ref C5)))
    (a6 : PySem.W.nsIn K mainGlobals "InvalidTransport" = some (some (.ref C6)))
    (a7 : PySem.W.nsIn K mainGlobals "InvalidOperation" = some (some (.ref C7)))
    (a8 : PySem.W.nsIn K mainGlobals "ParseError" = some (some (.ref C8)))
    (a9 : PySem.W.nsIn K mainGlobals "InvalidCommand" = some (some (.ref C9)))
    (a10 : PySem.W.nsIn K mainGlobals "InvalidNumber" = some (some (.ref C10)))
    (a11 : PySem.W.nsIn K mainGlobals "UnknownName" = some (some (.ref C11)))
    (a12 : PySem.W.nsIn K mainGlobals "TooMany" = some (some (.ref C12)))
    (a13 : PySem.W.nsIn K mainGlobals "NoOrder" = some (some (.ref C13)))
    (a14 : PySem.W.nsIn K mainGlobals "Held" = some (some (.ref C14)))
    (a15 : PySem.W.nsIn K mainGlobals "NothingToUndo" = some (some (.ref C15)))
    (a16 : PySem.W.nsIn K mainGlobals "LetterError" = some (some (.ref C16)))
    (chk : clsChk K [C0, C1, C2, C3, C4, C5, C6, C7, C8, C9, C10, C11, C12, C13, C14, C15, C16] = true)
    (zint : PySem.W.nsIn K mainGlobals "int" = some none)
    (zabs : PySem.W.nsIn K mainGlobals "abs" = some none)
    (zmax : PySem.W.nsIn K mainGlobals "max" = some none)
    (zmin : PySem.W.nsIn K mainGlobals "min" = some none)
    (zlen : PySem.W.nsIn K mainGlobals "len" = some none)
    (zrng : PySem.W.nsIn K mainGlobals "range" = some none)
    (zrep : PySem.W.nsIn K mainGlobals "repr" = some none)
    (zisi : PySem.W.nsIn K mainGlobals "isinstance" = some none)
    (zb1 : PySem.W.nsIn K mainGlobals "ValueError" = some none)
    (zb2 : PySem.W.nsIn K mainGlobals "IndexError" = some none)
    (zb3 : PySem.W.nsIn K mainGlobals "KeyError" = some none)
    (zb4 : PySem.W.nsIn K mainGlobals "OverflowError" = some none)
    (zb5 : PySem.W.nsIn K mainGlobals "RuntimeError" = some none)
    (zb6 : PySem.W.nsIn K mainGlobals "ArithmeticError" = some none)
    (zb7 : PySem.W.nsIn K mainGlobals "LookupError" = some none)
    (x0 : K.lookup C10 = some (excClassObj n0 q0 C10 N0 bs0 [.type "IndexError", .type "LookupError", .type "Exception", .type "BaseException", .type "object"] true sn0 sub0 ab0 col0 dd0 ma0 mb0 mc0 md0 me0 "IndexError.__new__"))
    (sa0 : PySem.W.findIn K (.ref C10) "__setattr__" = some (some (.builtin "object.__setattr__")))
    (nf0 : PySem.W.findIn K (.ref C10) "value" = some none)
    (kc0 : PySem.W.keepIn K (.ref C10) = true)
    (ic0 : PySem.W.findIn K (.ref C10) "__init__" = some (some (.ref i0)))
    (ti0 : PySem.W.typeIn K (.ref i0) = some (.type "function"))
    (vv0 : PySem.W.findCls K (.type "IndexError") (.type "type") "__init__" = some (.val (.builtin "IndexError.__init__")))
    (il0 : K.lookup i0 = some ⟨ioc0, iod0, .func (PySem.W.fnOf "__init__" "InvalidNumber.__init__" (defArgs sI0) (defBody sI0) (defScope sI0) .none ikV0 idc0 ipm0 ian0 icd0 ict0), isl0⟩)
    (ik0 : PySem.W.codeIn K icd0 "InvalidNumber.__init__" = true)
    (ip0 : PySem.W.keepIn K (.ref i0) = true)
    (x1 : K.lookup C11 = some (excClassObj n1 q1 C11 N1 bs1 [.type "KeyError", .type "LookupError", .type "Exception", .type "BaseException", .type "object"] true sn1 sub1 ab1 col1 dd1 ma1 mb1 mc1 md1 me1 "LookupError.__new__"))
    (sa1 : PySem.W.findIn K (.ref C11) "__setattr__" = some (some (.builtin "object.__setattr__")))
    (nf1 : PySem.W.findIn K (.ref C11) "name" = some none)
    (kc1 : PySem.W.keepIn K (.ref C11) = true)
    (ic1 : PySem.W.findIn K (.ref C11) "__init__" = some (some (.ref i1)))
    (ti1 : PySem.W.typeIn K (.ref i1) = some (.type "function"))
    (vv1 : PySem.W.findCls K (.type "KeyError") (.type "type") "__init__" = some (.val (.builtin "KeyError.__init__")))
    (il1 : K.lookup i1 = some ⟨ioc1, iod1, .func (PySem.W.fnOf "__init__" "UnknownName.__init__" (defArgs sI1) (defBody sI1) (defScope sI1) .none ikV1 idc1 ipm1 ian1 icd1 ict1), isl1⟩)
    (ik1 : PySem.W.codeIn K icd1 "UnknownName.__init__" = true)
    (ip1 : PySem.W.keepIn K (.ref i1) = true)
    (x2 : K.lookup C12 = some (excClassObj n2 q2 C12 N2 bs2 [.type "OverflowError", .type "ArithmeticError", .type "Exception", .type "BaseException", .type "object"] true sn2 sub2 ab2 col2 dd2 ma2 mb2 mc2 md2 me2 "OverflowError.__new__"))
    (sa2 : PySem.W.findIn K (.ref C12) "__setattr__" = some (some (.builtin "object.__setattr__")))
    (nf2 : PySem.W.findIn K (.ref C12) "limit" = some none)
    (kc2 : PySem.W.keepIn K (.ref C12) = true)
    (ic2 : PySem.W.findIn K (.ref C12) "__init__" = some (some (.ref i2)))
    (ti2 : PySem.W.typeIn K (.ref i2) = some (.type "function"))
    (vv2 : PySem.W.findCls K (.type "OverflowError") (.type "type") "__init__" = some (.val (.builtin "OverflowError.__init__")))
    (il2 : K.lookup i2 = some ⟨ioc2, iod2, .func (PySem.W.fnOf "__init__" "TooMany.__init__" (defArgs sI2) (defBody sI2) (defScope sI2) .none ikV2 idc2 ipm2 ian2 icd2 ict2), isl2⟩)
    (ik2 : PySem.W.codeIn K icd2 "TooMany.__init__" = true)
    (ip2 : PySem.W.keepIn K (.ref i2) = true)
    (x3 : K.lookup C13 = some (excClassObj n3 q3 C13 N3 bs3 [.type "ArithmeticError", .type "Exception", .type "BaseException", .type "object"] true sn3 sub3 ab3 col3 dd3 ma3 mb3 mc3 md3 me3 "ArithmeticError.__new__"))
    (sa3 : PySem.W.findIn K (.ref C13) "__setattr__" = some (some (.builtin "object.__setattr__")))
    (nf3 : PySem.W.findIn K (.ref C13) "ring" = some none)
    (kc3 : PySem.W.keepIn K (.ref C13) = true)
    (ic3 : PySem.W.findIn K (.ref C13) "__init__" = some (some (.ref i3)))
    (ti3 : PySem.W.typeIn K (.ref i3) = some (.type "function"))
    (vv3 : PySem.W.findCls K (.type "ArithmeticError") (.type "type") "__init__" = some (.val (.builtin "ArithmeticError.__init__")))
    (il3 : K.lookup i3 = some ⟨ioc3, iod3, .func (PySem.W.fnOf "__init__" "NoOrder.__init__" (defArgs sI3) (defBody sI3) (defScope sI3) .none ikV3 idc3 ipm3 ian3 icd3 ict3), isl3⟩)
    (ik3 : PySem.W.codeIn K icd3 "NoOrder.__init__" = true)
    (ip3 : PySem.W.keepIn K (.ref i3) = true)
    (x4 : K.lookup C14 = some (excClassObj n4 q4 C14 N4 bs4 [.type "RuntimeError", .type "Exception", .type "BaseException", .type "object"] true sn4 sub4 ab4 col4 dd4 ma4 mb4 mc4 md4 me4 "RuntimeError.__new__"))
    (sa4 : PySem.W.findIn K (.ref C14) "__setattr__" = some (some (.builtin "object.__setattr__")))
    (nf4 : PySem.W.findIn K (.ref C14) "step" = some none)
    (kc4 : PySem.W.keepIn K (.ref C14) = true)
    (ic4 : PySem.W.findIn K (.ref C14) "__init__" = some (some (.ref i4)))
    (ti4 : PySem.W.typeIn K (.ref i4) = some (.type "function"))
    (vv4 : PySem.W.findCls K (.type "RuntimeError") (.type "type") "__init__" = some (.val (.builtin "RuntimeError.__init__")))
    (il4 : K.lookup i4 = some ⟨ioc4, iod4, .func (PySem.W.fnOf "__init__" "Held.__init__" (defArgs sI4) (defBody sI4) (defScope sI4) .none ikV4 idc4 ipm4 ian4 icd4 ict4), isl4⟩)
    (ik4 : PySem.W.codeIn K icd4 "Held.__init__" = true)
    (ip4 : PySem.W.keepIn K (.ref i4) = true)
    (x5 : K.lookup C15 = some (excClassObj n5 q5 C15 N5 bs5 [.type "LookupError", .type "Exception", .type "BaseException", .type "object"] true sn5 sub5 ab5 col5 dd5 ma5 mb5 mc5 md5 me5 "LookupError.__new__"))
    (sa5 : PySem.W.findIn K (.ref C15) "__setattr__" = some (some (.builtin "object.__setattr__")))
    (nf5 : PySem.W.findIn K (.ref C15) "many" = some none)
    (kc5 : PySem.W.keepIn K (.ref C15) = true)
    (ic5 : PySem.W.findIn K (.ref C15) "__init__" = some (some (.ref i5)))
    (ti5 : PySem.W.typeIn K (.ref i5) = some (.type "function"))
    (vv5 : PySem.W.findCls K (.type "LookupError") (.type "type") "__init__" = some (.val (.builtin "LookupError.__init__")))
    (il5 : K.lookup i5 = some ⟨ioc5, iod5, .func (PySem.W.fnOf "__init__" "NothingToUndo.__init__" (defArgs sI5) (defBody sI5) (defScope sI5) .none ikV5 idc5 ipm5 ian5 icd5 ict5), isl5⟩)
    (ik5 : PySem.W.codeIn K icd5 "NothingToUndo.__init__" = true)
    (ip5 : PySem.W.keepIn K (.ref i5) = true)
    (gD : PySem.W.nsIn K mainGlobals "_law_dice" = some (some (.ref fD)))
    (lD : K.lookup fD = some ⟨ocD, odD, .func (PySem.W.fnOf "_law_dice" "_law_dice" (defArgs sDice) (defBody sDice) (defScope sDice) .none kVD dcD pmD anD cdD ctD), slD⟩)
    (cD : PySem.W.codeIn K cdD "_law_dice" = true)
    (kD : PySem.W.keepIn K (.ref fD) = true)
    (gU : PySem.W.nsIn K mainGlobals "_law_pull" = some (some (.ref fU)))
    (lU : K.lookup fU = some ⟨ocU, odU, .func (PySem.W.fnOf "_law_pull" "_law_pull" (defArgs sPull) (defBody sPull) (defScope sPull) .none kVU dcU pmU anU cdU ctU), slU⟩)
    (cU : PySem.W.codeIn K cdU "_law_pull" = true)
    (kU : PySem.W.keepIn K (.ref fU) = true)
    (gP : PySem.W.nsIn K mainGlobals "_law_pick" = some (some (.ref fP)))
    (lP : K.lookup fP = some ⟨ocP, odP, .func (PySem.W.fnOf "_law_pick" "_law_pick" (defArgs sPick) (defBody sPick) (defScope sPick) .none kVP dcP pmP anP cdP ctP), slP⟩)
    (cP : PySem.W.codeIn K cdP "_law_pick" = true)
    (kP : PySem.W.keepIn K (.ref fP) = true)
    (gV : PySem.W.nsIn K mainGlobals "_law_value" = some (some (.ref fV)))
    (lV : K.lookup fV = some ⟨ocV, odV, .func (PySem.W.fnOf "_law_value" "_law_value" (defArgs sValue) (defBody sValue) (defScope sValue) .none kVV dcV pmV anV cdV ctV), slV⟩)
    (cV : PySem.W.codeIn K cdV "_law_value" = true)
    (kV : PySem.W.keepIn K (.ref fV) = true)
    (gC : PySem.W.nsIn K mainGlobals "_law_classes" = some (some (.ref fC)))
    (lC : K.lookup fC = some ⟨ocC, odC, .func (PySem.W.fnOf "_law_classes" "_law_classes" (defArgs sClasses) (defBody sClasses) (defScope sClasses) .none kVC dcC pmC anC cdC ctC), slC⟩)
    (cC : PySem.W.codeIn K cdC "_law_classes" = true)
    (kC : PySem.W.keepIn K (.ref fC) = true)
    (gB : PySem.W.nsIn K mainGlobals "_law_bases" = some (some (.ref fB)))
    (lB : K.lookup fB = some ⟨ocB, odB, .func (PySem.W.fnOf "_law_bases" "_law_bases" (defArgs sBases) (defBody sBases) (defScope sBases) .none kVB dcB pmB anB cdB ctB), slB⟩)
    (cB : PySem.W.codeIn K cdB "_law_bases" = true)
    (kB : PySem.W.keepIn K (.ref fB) = true)
    (gM : PySem.W.nsIn K mainGlobals "_law_messages_right" = some (some (.ref fM)))
    (lM : K.lookup fM = some ⟨ocM, odM, .func (PySem.W.fnOf "_law_messages_right" "_law_messages_right" (defArgs sMsgs) (defBody sMsgs) (defScope sMsgs) .none kVM dcM pmM anM cdM ctM), slM⟩)
    (cM : PySem.W.codeIn K cdM "_law_messages_right" = true)
    (kM : PySem.W.keepIn K (.ref fM) = true)
    (gW : PySem.W.nsIn K mainGlobals "_law_values_right" = some (some (.ref fW)))
    (lW : K.lookup fW = some ⟨ocW, odW, .func (PySem.W.fnOf "_law_values_right" "_law_values_right" (defArgs sVals) (defBody sVals) (defScope sVals) .none kVW dcW pmW anW cdW ctW), slW⟩)
    (cW : PySem.W.codeIn K cdW "_law_values_right" = true)
    (kW : PySem.W.keepIn K (.ref fW) = true)
    (gL : PySem.W.nsIn K mainGlobals "law" = some (some (.ref fL)))
    (lL : K.lookup fL = some ⟨ocL, odL, .func (PySem.W.fnOf "law" "law" (defArgs sLaw) (defBody sLaw) (defScope sLaw) .none kVL dcL pmL anL cdL ctL), slL⟩)
    (cL : PySem.W.codeIn K cdL "law" = true)
    (kL : PySem.W.keepIn K (.ref fL) = true) :
    ∃ fd : FuncData, (∀ (s : Shared) (v : Value), BindsTo s fd ⟨[v], []⟩ [("_law_script", v)]) ∧ ∀ base : Heap, K.In base → base.Ns mainGlobals mg → FnG l.prog w K mg base 4 fa fd ["_law_script"] (spLaw K) := by
  have e := hfa.symm.trans (PySem.W.mg_of X G gL)
  cases e
  have T : Bare mg := ⟨PySem.W.mg_none_of X G zint, PySem.W.mg_none_of X G zabs, PySem.W.mg_none_of X G zmax, PySem.W.mg_none_of X G zmin, PySem.W.mg_none_of X G zlen, PySem.W.mg_none_of X G zrng, PySem.W.mg_none_of X G zrep, PySem.W.mg_none_of X G zisi⟩
  have Nm : Nms mg [C0, C1, C2, C3, C4, C5, C6, C7, C8, C9, C10, C11, C12, C13, C14, C15, C16] := ⟨PySem.W.mg_of X G a0, PySem.W.mg_of X G a1, PySem.W.mg_of X G a2, PySem.W.mg_of X G a3, PySem.W.mg_of X G a4, PySem.W.mg_of X G a5, PySem.W.mg_of X G a6, PySem.W.mg_of X G a7, PySem.W.mg_of X G a8, PySem.W.mg_of X G a9, PySem.W.mg_of X G a10, PySem.W.mg_of X G a11, PySem.W.mg_of X G a12, PySem.W.mg_of X G a13, PySem.W.mg_of X G a14, PySem.W.mg_of X G a15, PySem.W.mg_of X G a16, PySem.W.mg_none_of X G zb1, PySem.W.mg_none_of X G zb2, PySem.W.mg_none_of X G zb3, PySem.W.mg_none_of X G zb4, PySem.W.mg_none_of X G zb5, PySem.W.mg_none_of X G zb6, PySem.W.mg_none_of X G zb7⟩
  have C : Cls K [C0, C1, C2, C3, C4, C5, C6, C7, C8, C9, C10, C11, C12, C13, C14, C15, C16] := cls_of chk
  have O0 : OneX K C10 i0 "IndexError" "IndexError" "IndexError.__new__" "IndexError.__init__" "value" := ⟨⟨⟨_, _, _, _, _, _, _, _, _, _, _, _, _, _, _, x0, ⟨by decide +kernel, by decide +kernel, by decide +kernel⟩, by decide +kernel, by decide +kernel, fun self => by kernel_rfl⟩, sa0, nf0, kc0⟩, ic0, ti0, vv0⟩
  have F0 := fun_mk (st := sI0) il0 ik0 ip0
  have b0 := F0.binds (ps := ["self", "value"]) fun _ _ _ _ _ _ us hl => match us, hl with | [_, _], _ => rfl
  have O1 : OneX K C11 i1 "KeyError" "LookupError" "LookupError.__new__" "KeyError.__init__" "name" := ⟨⟨⟨_, _, _, _, _, _, _, _, _, _, _, _, _, _, _, x1, ⟨by decide +kernel, by decide +kernel, by decide +kernel⟩, by decide +kernel, by decide +kernel, fun self => by kernel_rfl⟩, sa1, nf1, kc1⟩, ic1, ti1, vv1⟩
  have F1 := fun_mk (st := sI1) il1 ik1 ip1
  have b1 := F1.binds (ps := ["self", "name"]) fun _ _ _ _ _ _ us hl => match us, hl with | [_, _], _ => rfl
  have O2 : OneX K C12 i2 "OverflowError" "OverflowError" "OverflowError.__new__" "OverflowError.__init__" "limit" := ⟨⟨⟨_, _, _, _, _, _, _, _, _, _, _, _, _, _, _, x2, ⟨by decide +kernel, by decide +kernel, by decide +kernel⟩, by decide +kernel, by decide +kernel, fun self => by kernel_rfl⟩, sa2, nf2, kc2⟩, ic2, ti2, vv2⟩
  have F2 := fun_mk (st := sI2) il2 ik2 ip2
  have b2 := F2.binds (ps := ["self", "limit"]) fun _ _ _ _ _ _ us hl => match us, hl with | [_, _], _ => rfl
  have O3 : OneX K C13 i3 "ArithmeticError" "ArithmeticError" "ArithmeticError.__new__" "ArithmeticError.__init__" "ring" := ⟨⟨⟨_, _, _, _, _, _, _, _, _, _, _, _, _, _, _, x3, ⟨by decide +kernel, by decide +kernel, by decide +kernel⟩, by decide +kernel, by decide +kernel, fun self => by kernel_rfl⟩, sa3, nf3, kc3⟩, ic3, ti3, vv3⟩
  have F3 := fun_mk (st := sI3) il3 ik3 ip3
  have b3 := F3.binds (ps := ["self", "ring"]) fun _ _ _ _ _ _ us hl => match us, hl with | [_, _], _ => rfl
  have O4 : OneX K C14 i4 "RuntimeError" "RuntimeError" "RuntimeError.__new__" "RuntimeError.__init__" "step" := ⟨⟨⟨_, _, _, _, _, _, _, _, _, _, _, _, _, _, _, x4, ⟨by decide +kernel, by decide +kernel, by decide +kernel⟩, by decide +kernel, by decide +kernel, fun self => by kernel_rfl⟩, sa4, nf4, kc4⟩, ic4, ti4, vv4⟩
  have F4 := fun_mk (st := sI4) il4 ik4 ip4
  have b4 := F4.binds (ps := ["self", "step"]) fun _ _ _ _ _ _ us hl => match us, hl with | [_, _], _ => rfl
  have O5 : OneX K C15 i5 "LookupError" "LookupError" "LookupError.__new__" "LookupError.__init__" "many" := ⟨⟨⟨_, _, _, _, _, _, _, _, _, _, _, _, _, _, _, x5, ⟨by decide +kernel, by decide +kernel, by decide +kernel⟩, by decide +kernel, by decide +kernel, fun self => by kernel_rfl⟩, sa5, nf5, kc5⟩, ic5, ti5, vv5⟩
  have F5 := fun_mk (st := sI5) il5 ik5 ip5
  have b5 := F5.binds (ps := ["self", "many"]) fun _ _ _ _ _ _ us hl => match us, hl with | [_, _], _ => rfl
  have FD := fun_mk (st := sDice) lD cD kD
  have bD := FD.binds (ps := ["_law_script", "_law_at"]) fun _ _ _ _ _ _ us hl => match us, hl with | [_, _], _ => rfl
  have FU := fun_mk (st := sPull) lU cU kU
  have bU := FU.binds (ps := ["_law_dice_here", "_law_total"]) fun _ _ _ _ _ _ us hl => match us, hl with | [_, _], _ => rfl
  have FP := fun_mk (st := sPick) lP cP kP
  have bP := FP.binds (ps := ["_law_dice_here", "_law_items"]) fun _ _ _ _ _ _ us hl => match us, hl with | [_, _], _ => rfl
  have FV := fun_mk (st := sValue) lV cV kV
  have bV := FV.binds (ps := ["_law_dice_here"]) fun _ _ _ _ _ _ us hl => match us, hl with | [_], _ => rfl
  have FC := fun_mk (st := sClasses) lC cC kC
  have bC := FC.binds (ps := ["_law_error"]) fun _ _ _ _ _ _ us hl => match us, hl with | [_], _ => rfl
  have FB := fun_mk (st := sBases) lB cB kB
  have bB := FB.binds (ps := ["_law_error"]) fun _ _ _ _ _ _ us hl => match us, hl with | [_], _ => rfl
  have FM := fun_mk (st := sMsgs) lM cM kM
  have bM := FM.binds (ps := ["_law_text"]) fun _ _ _ _ _ _ us hl => match us, hl with | [_], _ => rfl
  have FW := fun_mk (st := sVals) lW cW kW
  have bW := FW.binds (ps := ["_law_kept", "_law_other"]) fun _ _ _ _ _ _ us hl => match us, hl with | [_, _], _ => rfl
  have FL := fun_mk (st := sLaw) lL cL kL
  exact ⟨PySem.W.fnOf "law" "law" (defArgs sLaw) (defBody sLaw) (defScope sLaw) .none kVL dcL pmL anL cdL ctL, fun s v => .of_eq rfl, fun base _ _ => ok_law FL T Nm C FC bC (PySem.W.mg_of X G gC) FB bB (PySem.W.mg_of X G gB) FD bD (PySem.W.mg_of X G gD) FU bU (PySem.W.mg_of X G gU) FP bP (PySem.W.mg_of X G gP) FV bV (PySem.W.mg_of X G gV) FM bM (PySem.W.mg_of X G gM) FW bW (PySem.W.mg_of X G gW) F0 O0 b0 F1 O1 b1 F2 O2 b2 F3 O3 b3 F4 O4 b4 F5 O5 b5⟩
end K0
open PySem PySem.W PyProof.Rows
set_option maxRecDepth 100000 in
set_option maxHeartbeats 0 in
theorem PySem.Challenge.cw_letterrules_k00_errors_holds : PySem.Challenge.rw_letterrules_k00_errors.Holds := by
  w_on; o_law; k_head; (case hw => w_witness2)
  k_fill
  refine K0.walk_g (l := PySem.Challenge.rw_letterrules_k00_errors) (n := 63) (k := 4) (x := "_law_script") (sp := fun w => K0.spLaw _) rfl (by decide) rfl ⟨rfl, by decide, by decide⟩ (fun w h Y => PySem.W.kIn_of Y) ?F (fun _ _ a ns hl _ hS => ⟨a, ns, rfl, hS, hl, fun _ => rfl⟩)
  case F =>
    intro w mg fa h KX G hmg
    refine' K0.all_mk KX G hmg ?a0 ?a1 ?a2 ?a3 ?a4 ?a5 ?a6 ?a7 ?a8 ?a9 ?a10 ?a11 ?a12 ?a13 ?a14 ?a15 ?a16 ?chk ?zint ?zabs ?zmax ?zmin ?zlen ?zrng ?zrep ?zisi ?zb1 ?zb2 ?zb3 ?zb4 ?zb5 ?zb6 ?zb7 ?x0 ?sa0 ?nf0 ?kc0 ?ic0 ?ti0 ?vv0 ?il0 ?ik0 ?ip0 ?x1 ?sa1 ?nf1 ?kc1 ?ic1 ?ti1 ?vv1 ?il1 ?ik1 ?ip1 ?x2 ?sa2 ?nf2 ?kc2 ?ic2 ?ti2 ?vv2 ?il2 ?ik2 ?ip2 ?x3 ?sa3 ?nf3 ?kc3 ?ic3 ?ti3 ?vv3 ?il3 ?ik3 ?ip3 ?x4 ?sa4 ?nf4 ?kc4 ?ic4 ?ti4 ?vv4 ?il4 ?ik4 ?ip4 ?x5 ?sa5 ?nf5 ?kc5 ?ic5 ?ti5 ?vv5 ?il5 ?ik5 ?ip5 ?gD ?lD ?cD ?kD ?gU ?lU ?cU ?kU ?gP ?lP ?cP ?kP ?gV ?lV ?cV ?kV ?gC ?lC ?cC ?kC ?gB ?lB ?cB ?kB ?gM ?lM ?cM ?kM ?gW ?lW ?cW ?kW ?gL ?lL ?cL ?kL
    (case a0 => k_is)
    (case a1 => k_is)
    (case a2 => k_is)
    (case a3 => k_is)
    (case a4 => k_is)
    (case a5 => k_is)
    (case a6 => k_is)
    (case a7 => k_is)
    (case a8 => k_is)
    (case a9 => k_is)
    (case a10 => k_is)
    (case a11 => k_is)
    (case a12 => k_is)
    (case a13 => k_is)
    (case a14 => k_is)
    (case a15 => k_is)
    (case a16 => k_is)
    (case chk => kernel_rfl)
    (case zint => k_is)
    (case zabs => k_is)
    (case zmax => k_is)
    (case zmin => k_is)
    (case zlen => k_is)
    (case zrng => k_is)
    (case zrep => k_is)
    (case zisi => k_is)
    (case zb1 => k_is)
    (case zb2 => k_is)
    (case zb3 => k_is)
    (case zb4 => k_is)
    (case zb5 => k_is)
    (case zb6 => k_is)
    (case zb7 => k_is)
    (case x0 => k_is)
    (case sa0 => k_is)
    (case nf0 => k_is)
    (case kc0 => k_is)
    (case ic0 => k_is)
    (case ti0 => k_is)
    (case vv0 => k_is)
    (case il0 => k_is)
    (case ik0 => k_is)
    (case ip0 => k_is)
    (case x1 => k_is)
    (case sa1 => k_is)
    (case nf1 => k_is)
    (case kc1 => k_is)
    (case ic1 => k_is)
    (case ti1 => k_is)
    (case vv1 => k_is)
    (case il1 => k_is)
    (case ik1 => k_is)
    (case ip1 => k_is)
    (case x2 => k_is)
    (case sa2 => k_is)
    (case nf2 => k_is)
    (case kc2 => k_is)
    (case ic2 => k_is)
    (case ti2 => k_is)
    (case vv2 => k_is)
    (case il2 => k_is)
    (case ik2 => k_is)
    (case ip2 => k_is)
    (case x3 => k_is)
    (case sa3 => k_is)
    (case nf3 => k_is)
    (case kc3 => k_is)
    (case ic3 => k_is)
    (case ti3 => k_is)
    (case vv3 => k_is)
    (case il3 => k_is)
    (case ik3 => k_is)
    (case ip3 => k_is)
    (case x4 => k_is)
    (case sa4 => k_is)
    (case nf4 => k_is)
    (case kc4 => k_is)
    (case ic4 => k_is)
    (case ti4 => k_is)
    (case vv4 => k_is)
    (case il4 => k_is)
    (case ik4 => k_is)
    (case ip4 => k_is)
    (case x5 => k_is)
    (case sa5 => k_is)
    (case nf5 => k_is)
    (case kc5 => k_is)
    (case ic5 => k_is)
    (case ti5 => k_is)
    (case vv5 => k_is)
    (case il5 => k_is)
    (case ik5 => k_is)
    (case ip5 => k_is)
    (case gD => k_is)
    (case lD => k_is)
    (case cD => k_is)
    (case kD => k_is)
    (case gU => k_is)
    (case lU => k_is)
    (case cU => k_is)
    (case kU => k_is)
    (case gP => k_is)
    (case lP => k_is)
    (case cP => k_is)
    (case kP => k_is)
    (case gV => k_is)
    (case lV => k_is)
    (case cV => k_is)
    (case kV => k_is)
    (case gC => k_is)
    (case lC => k_is)
    (case cC => k_is)
    (case kC => k_is)
    (case gB => k_is)
    (case lB => k_is)
    (case cB => k_is)
    (case kB => k_is)
    (case gM => k_is)
    (case lM => k_is)
    (case cM => k_is)
    (case kM => k_is)
    (case gW => k_is)
    (case lW => k_is)
    (case cW => k_is)
    (case kW => k_is)
    (case gL => k_is)
    (case lL => k_is)
    (case cL => k_is)
    (case kL => k_is)
