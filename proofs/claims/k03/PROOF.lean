import PyProof.Rows.All
import Wide.All
import OpenK.AllK
import Wide.FinOn
import HandS.ForMost
import HandS.ForExc
import HandS.ExcInit
import HandS.IsInst
import PyProof.ExcBaseAll.LookupError
import PyProof.ExcBaseAll.ValueError
import HandS.MakeKw
import HandS.ExcIs
import HandS.ExcValue
import PyProof.ReprRoads
import HandS.Wide
import HandS.Style
import HandS.Walk
import HandS.Codes
import HandS.ExcField
import HandS.TupSets
import HandS.SetBool
import KE.SortData
import PyProof.TupleOfSeq
import HandS.DictComp
import KE.GoesEnum
import HandS.TupAny
import HandS.Defaults
import KE.KExcIs
import PySem.Challenge.RW_undoamid_k03_tables_refused
section
set_option Elab.async false
set_option linter.all false
set_option maxRecDepth 100000
set_option maxHeartbeats 4000000
namespace Und
open PySem PySem.F PySem.W PySem.HandSPX Builtin Builtin.ObjectAttr
/-- an own class over an exception class of the machine, by what is asked of its chain -/
structure Above (B : String) (bm : List Value) : Prop where
  own : bm.contains (.type B) = true
  att : bm.contains (.type "AttributeError") = false
  nam : bm.contains (.type "NameError") = false
section
variable {prog : Program} {w : World} {M : Model} {A : Around} {E : Value → Shared → Prop} {R : Result → Shared → Prop}
variable {h : Heap} {g : Array GenState} {d : Drawn} {t : Nat} {os : OsState}
variable {nm q : Str} {C N : Addr} {bs bm bmB : List Value} {hdct : Bool} {sn : List Str} {sub : List Value} {ab : Bool} {col : Option Bool}
variable {dd : Option Addr} {k0 k1 k2 k3 k5 : Option Value} {B newId initId : String}
theorem newCheck (F : ExcBaseFacts B newId initId bmB) (T : Above B bm) {args : List Value} {kw : List (Str × Value)} {Q : Unit → Shared → Prop}
    (hC : h.get? C = some (excClassObj nm q C N bs bm hdct sn sub ab col dd k0 k1 k2 k3 k5 newId)) (hq : Q () ⟨h, g, d, t, os⟩) :
    wpAny M A (checkBuiltinCall newId ⟨.ref C :: args, kw⟩) Q E ⟨h, g, d, t, os⟩ := by
  have z1 : (Value.ref C :: bm).contains (.type B) = true := by rw [List.contains_cons, T.own, Bool.or_true]
  have z2 := F.noStar
  simp only [checkBuiltinCall, F.newKind, F.newSplit, F.newRow]
  repeat (first
    | refine wpAny_loadPart_at hC ?_
    | (refine wpAny_isSubtype_exc hC ?_; rw [z1])
    | refine wpAny_staticBase_exc hC ?_
    | refine wpAny_madeBy_exc hC ?_
    | simp only [bne_self_eq_false, Bool.false_eq_true, if_false]
    | wp_step)
  exact hq
theorem newMade (F : ExcBaseFacts B newId initId bmB) (T : Above B bm) {args : List Value} {kw : List (Str × Value)}
    (hC : h.get? C = some (excClassObj nm q C N bs bm hdct sn sub ab col dd k0 k1 k2 k3 k5 newId)) (hz : args.length ≤ sizeLine)
    (hq : R (.ok (.ret (.ref (h.objs.size + 1)))) ⟨(h.push (kdv_tup args)).push (excO C h.objs.size), g, d, t, os⟩) :
    codeAny (model prog w) A (.builtin newId ⟨.ref C :: args, kw⟩) R ⟨h, g, d, t, os⟩ := by
  have zE := F.ends
  have zB : (Value.ref C :: bm).contains (.type B) = true := by rw [List.contains_cons, T.own, Bool.or_true]
  have zA : (Value.ref C :: bm).contains (.type "AttributeError") = false := by rw [List.contains_cons, T.att]; rfl
  have zN : (Value.ref C :: bm).contains (.type "NameError") = false := by rw [List.contains_cons, T.nam]; rfl
  refine codeAny_builtinAt F.entry ?_
  unfold Builtin.«BaseException.__new__»
  refine wpAt_bind ?_
  show wpAt _ _ _ (stack >>= _) _ _ _
  refine wpAt_bind (wpAt_stack fun p below => wpAt_of_wpAny ?_)
  wp_walk
  refine wpAt_of_wpAny ?_
  rw [F.owner]
  repeat (first
    | with_reducible refine wpAny_madeHere_exc F.canon hC ?_
    | with_reducible refine wpAny_loadPart_at hC ?_
    | (with_reducible refine wpAny_isSubtype_exc hC ?_; first | rw [zB] | rw [zA] | rw [zN])
    | wp_step)
  show R _ _
  rw [Heap.size_push]
  exact hq
theorem typeCall (F : ExcBaseFacts B newId initId bmB) (T : Above B bm) {args : List Value} {kw : List (Str × Value)} {fI : Addr} {Q : Fin → Shared → Prop}
    (hC : h.get? C = some (excClassObj nm q C N bs bm hdct sn sub ab col dd k0 k1 k2 k3 k5 newId)) (hz : args.length ≤ sizeLine)
    (look : Looks (model prog w) h (typeLookup (.ref C) "__init__") (some (.ref fI)))
    (bnd : ∀ self, Looks (model prog w) h (bindSpecial (.ref fI) self) (.ref fI, [self]))
    (hq : codeAny (model prog w) A (.call (.ref fI) ⟨.ref (h.objs.size + 1) :: args, kw⟩)
      (fun r s' => match r with
        | .ok (.ret v) => v = .none ∧ Q (.done (.ret (.ref (h.objs.size + 1)))) s'
        | .ok _ => False
        | .error e => E e s')
      ⟨(h.push (kdv_tup args)).push (excO C h.objs.size), g, d, t, os⟩) :
    wpAny (model prog w) A (Builtin.«type.__call__» ⟨.ref C :: args, kw⟩) Q E ⟨h, g, d, t, os⟩ := by
  repeat (first
    | with_reducible refine wpAny_loadPart_at hC ?_
    | with_reducible refine wpAny_madeBy_exc hC ?_
    | wp_step)
  refine codeAny_call_builtin_code (Code.quiet_builtin _ F.quiet) (newCheck F T hC ?_)
  refine newMade F T hC hz ?_
  show wpAny _ _ _ _ _ _
  have up : ∀ b o, h.get? b = some o → ((h.push (kdv_tup args)).push (excO C h.objs.size)).get? b = some o :=
    fun b o e => Heap.get?_push_of_some _ (Heap.get?_push_of_some _ e)
  have c1 := up _ _ hC
  have c2 : ((h.push (kdv_tup args)).push (excO C h.objs.size)).get? (h.objs.size + 1) = some (excO C h.objs.size) := by heap_get
  have c3 : (Value.ref C :: bm).contains (.ref C) = true := by simp
  have c4 := look.keeps up
  have c5 := (bnd (.ref (h.objs.size + 1))).keeps up
  unfold isInstance
  repeat (first
    | with_reducible refine wpAny_loadPart_at c2 ?_
    | (with_reducible refine wpAny_isSubtype_exc c1 ?_; rw [c3])
    | wp_step)
  show wpAny _ _ (typeLookup (.ref C) _) _ _ _
  refine c4.at ?_
  refine wpAny_holding (wpAny_bind (c5.at ?_))
  refine wpAny_bind (wpAny_call (codeAny_mono hq fun r s' z => ?_))
  rcases r with e | (v | _ | _ | _) <;> first | exact z | exact z.elim | skip
  obtain ⟨rfl, z⟩ := z
  first
    | exact wpAny_pure (wpAny_pure z)
    | (wp_walk; exact z)
theorem madeBy (F : ExcBaseFacts B newId initId bmB) (T : Above B bm) {args : List Value} {kw : List (Str × Value)} {fI : Addr}
    (hC : h.get? C = some (excClassObj nm q C N bs bm hdct sn sub ab col dd k0 k1 k2 k3 k5 newId)) (hz : args.length ≤ sizeLine)
    (look : Looks (model prog w) h (typeLookup (.ref C) "__init__") (some (.ref fI)))
    (bnd : ∀ self, Looks (model prog w) h (bindSpecial (.ref fI) self) (.ref fI, [self]))
    (hq : codeAny (model prog w) (A.under (.builtin "type.__call__" ⟨.ref C :: args, kw⟩)) (.call (.ref fI) ⟨.ref (h.objs.size + 1) :: args, kw⟩)
      (InitBack (h.objs.size + 1) R) ⟨(h.push (kdv_tup args)).push (excO C h.objs.size), g, d, t, os⟩) :
    codeAny (model prog w) A (.call (.ref C) ⟨args, kw⟩) R ⟨h, g, d, t, os⟩ := by
  have f1 := tc_lookup
  have f2 := tc_bind (.ref C)
  have ty : (⟨h, g, d, t, os⟩ : Shared).TypeIs (.ref C) "type" := ⟨_, hC, rfl⟩
  refine codeAny_of_tree ?_
  show wpAny _ _ (callAny (.ref C) _) _ _ _
  repeat (any_goals (first
    | assumption
    | with_reducible refine wpAny_loadPart_at hC ?_
    | wp_step))
  refine ⟨rfl, ?_⟩
  refine codeAny_call_builtin_at (Code.quiet_builtin _ (by decide +kernel)) entry_typeCall ?_
  refine wpAny_check_type_call_sub hC (typeCall F T hC hz look bnd ?_)
  refine codeAny_mono hq fun r s' z => ?_
  rcases r with e | (v | _ | _ | _) <;> exact z
end
end Und
end

section
set_option Elab.async false
set_option linter.all false
set_option maxRecDepth 100000
set_option maxHeartbeats 4000000
namespace Und
open PySem PySem.F PySem.W PySem.HandSPX Builtin Builtin.ObjectAttr
/-- a chain of classes along which nothing keeps a store away -/
structure Opens (l : List Value) : Prop where
  full : l.isEmpty = false
  obj : l.contains (.type "object") = true
  pass : ∀ self, refuseLoop self "__setattr__" l = pure ()
theorem Opens.ref {C : Addr} {l : List Value} (x : Opens l) : Opens (.ref C :: l) :=
  ⟨rfl, by rw [List.contains_cons, x.obj, Bool.or_true], fun self => by rw [refuseLoop_ref]; exact x.pass self⟩
theorem opens_VE : Opens veTail := ⟨rfl, by decide +kernel, fun self => F.store_ValueError.passes self⟩
abbrev keTail : List Value := [.type "KeyError", .type "LookupError", .type "Exception", .type "BaseException", .type "object"]
theorem opens_KE : Opens keTail := ⟨rfl, by decide +kernel, fun self => by kernel_rfl⟩
section
variable {prog : Program} {w : World} {M : Model} {A : Around} {E : Value → Shared → Prop} {R : Result → Shared → Prop}
variable {hp : Heap} {g : Array GenState} {d : Drawn} {t : Nat} {os : OsState} {K : Frag} {f : Str} {tk : Tok} {v : Value} {x C : Addr} {fv : Array Value} {cd : ClassData}
theorem putFirst (X : K.In hp) (hx : hp.get? x = some { cls := .ref C, data := .fields fv }) (hcd : clsIn K C = some cd) (hm : Opens cd.mro) (hh : cd.hasDict = true) (no : findIn K (.ref C) f = some none)
    (hq : ∀ h' tk' dx, (∀ b o, b ≠ x → hp.get? b = some o → h'.get? b = some o) → hp.objs.size ≤ dx → dx ≠ x →
      h'.get? x = some { cls := .ref C, dict := some dx, data := .fields fv } → h'.Ns1 dx (fun y => if y = f then some v else none) → R (.ok (.ret .none)) ⟨h', g, d, tk', os⟩) :
    codeAny (model prog w) A (.call (.builtin "object.__setattr__") ⟨[.ref x, .str f tk, v], []⟩) R ⟨hp, g, d, t, os⟩ := by
  have I : InstAt hp x { cls := .ref C, data := .fields fv } C none := ⟨hx, rfl, rfl, trivial⟩
  have S := F.store_object
  have xs : x ≠ hp.objs.size := Nat.ne_of_lt (Heap.lt_size hx)
  have isO : Looks (model prog w) hp (isInstance (.ref x) (.type "object")) true := by
    refine I.type.andThen (looks_mroIn X ?_)
    unfold mroIn
    rw [hcd, Option.bind_some, if_neg (by rw [hm.full]; decide), hm.obj]
  refine codeAny_call_builtin S.slot.plain S.entry ?_
  refine @check_slot (model prog w) _ _ ⟨hp, g, d, t, os⟩ "object.__setattr__" "object" "__setattr__" (.ref x) [.str f tk, v] [] _ S.kind S.split isO (S.args (.ref x) (.str f tk) v) ?_
  have c1 : Looks (model prog w) hp (mroOf (.ref C)) cd.mro := (looks_clsIn X hcd).andThen .now
  have c2 : Looks (model prog w) hp (storeTaker? none) none := .now
  have c3 : Looks (model prog w) hp (classData C) cd := looks_clsIn X hcd
  rw [osa_eq, refuse_eq]
  refine wpAny_bind (wpAny_bind (I.type.at (wpAny_bind (c1.at ?_))))
  rw [hm.pass]
  refine wpAny_pure (wpAny_bind (I.type.at (wpAny_bind ((looks_findIn X no).at (wpAny_bind (c2.at ?_))))))
  show wpAny _ _ (storeInOwnDict (.ref x) (.ref C) (.str f tk) f v false) _ _ _
  obtain ⟨nm, bs, mro, ns, qn, hd, sn, sb, ab, col, del⟩ := cd
  dsimp only at hh
  subst hh
  unfold storeInOwnDict ownDictForStores
  repeat (first
    | with_reducible refine store_in_new ?_ ?_
    | with_reducible refine wpAny_loadPart_at hx ?_
    | with_reducible refine c3.at ?_
    | wp_step)
  · refine ⟨_, #[], _, (Heap.get?_update_ne _ _ _ _ xs.symm).trans (Heap.get?_push_at rfl rfl), rfl, ?_, fun _ => rfl⟩
    exact fun e he => absurd he (by simp)
  · intro h' tk' hn' hs
    have hx1 : (hp.push { cls := .type "dict", data := .dict #[] }).get? x = some { cls := .ref C, data := .fields fv } := Heap.get?_push_of_some _ hx
    refine hq h' tk' hp.objs.size (fun b o hb ho => ?_) (Nat.le_refl _) xs.symm ?_ hn'
    · exact (hs.2 b (Nat.ne_of_lt (Heap.lt_size ho))).trans ((Heap.get?_update_ne _ _ _ _ hb).trans (Heap.get?_push_of_some _ ho))
    · exact (hs.2 x xs).trans (Heap.get?_update_self _ hx1 rfl)
theorem putMore {dx : Addr} {m0 : Str → Option Value} {nl : List Str} (X : K.In hp) (hx : hp.get? x = some { cls := .ref C, dict := some dx, data := .fields fv })
    (hns : hp.Ns1 dx m0) (hw : Within m0 nl) (hz : nl.length ≤ 1000) (hcd : clsIn K C = some cd) (hm : Opens cd.mro) (hh : cd.hasDict = true) (no : findIn K (.ref C) f = some none)
    (hq : ∀ h' tk', (∀ b o, b ≠ dx → hp.get? b = some o → h'.get? b = some o) → h'.Ns1 dx (fun y => if y = f then some v else m0 y) → R (.ok (.ret .none)) ⟨h', g, d, tk', os⟩) :
    codeAny (model prog w) A (.call (.builtin "object.__setattr__") ⟨[.ref x, .str f tk, v], []⟩) R ⟨hp, g, d, t, os⟩ := by
  obtain ⟨oD, esD, epD, hoD, hdD, _⟩ := hns.count hw
  have I : InstAt hp x { cls := .ref C, dict := some dx, data := .fields fv } C (some oD) := ⟨hx, rfl, rfl, hoD⟩
  have S := F.store_object
  have isO : Looks (model prog w) hp (isInstance (.ref x) (.type "object")) true := by
    refine I.type.andThen (looks_mroIn X ?_)
    unfold mroIn
    rw [hcd, Option.bind_some, if_neg (by rw [hm.full]; decide), hm.obj]
  refine codeAny_call_builtin S.slot.plain S.entry ?_
  refine @check_slot (model prog w) _ _ ⟨hp, g, d, t, os⟩ "object.__setattr__" "object" "__setattr__" (.ref x) [.str f tk, v] [] _ S.kind S.split isO (S.args (.ref x) (.str f tk) v) ?_
  have c1 : Looks (model prog w) hp (mroOf (.ref C)) cd.mro := (looks_clsIn X hcd).andThen .now
  have c2 : Looks (model prog w) hp (storeTaker? none) none := .now
  have c3 : Looks (model prog w) hp (classData C) cd := looks_clsIn X hcd
  rw [osa_eq, refuse_eq]
  refine wpAny_bind (wpAny_bind (I.type.at (wpAny_bind (c1.at ?_))))
  rw [hm.pass]
  refine wpAny_pure (wpAny_bind (I.type.at (wpAny_bind ((looks_findIn X no).at (wpAny_bind (c2.at ?_))))))
  show wpAny _ _ (storeInOwnDict (.ref x) (.ref C) (.str f tk) f v false) _ _ _
  obtain ⟨nm, bs, mro, ns, qn, hd, sn, sb, ab, col, del⟩ := cd
  dsimp only at hh
  subst hh
  unfold storeInOwnDict ownDictForStores
  repeat (first
    | with_reducible refine PySem.OEX.store_in_old hns hw hz ?_
    | with_reducible refine wpAny_loadPart_at hx ?_
    | with_reducible refine c3.at ?_
    | wp_step)
  intro h' tk' hn' hs
  exact hq h' tk' (fun b o hb ho => (hs.2 b hb).trans ho) hn'
end
end Und
end

section
set_option Elab.async false
set_option linter.all false
set_option maxRecDepth 100000
set_option maxHeartbeats 4000000
namespace L2.Und
open PySem PySem.Spec PyProof.Rows _root_.Und
open PySem.W (findIn keepIn subIn hasDictIn specialIn takesIn mroIn clsIn)
/-- what the written part says of an own exception class -/
structure ErrC (K : PySem.W.Frag) (C : Addr) : Prop where
  cls : ∃ B newId initId bmB nm q N bs bm sn sub ab col dd k0 k1 k2 k3 k5,
    ExcBaseFacts B newId initId bmB ∧ Above B bm ∧ Opens bm ∧ K.lookup C = some (excClassObj nm q C N bs bm true sn sub ab col dd k0 k1 k2 k3 k5 newId)
  keep : keepIn K (.ref C) = true
  sa : findIn K (.ref C) "__setattr__" = some (some (.builtin "object.__setattr__"))
  ga : findIn K (.ref C) "__getattribute__" = some (some (.builtin "BaseException.__getattribute__"))
  gg : findIn K (.ref C) "__getattr__" = some none
  exc : subIn K (.ref C) (.type "BaseException") = some true
  dct : hasDictIn K C = true
  kls : findIn K (.ref C) "__class__" = some (some (.builtin "object.__class__"))
  obj : mroIn K C (.type "object") = some true
/-- what is the same for all of them -/
structure ErrG (K : PySem.W.Frag) : Prop where
  get : specialIn K (.builtin "object.__class__") "__get__" = some (some (.builtin "getset_descriptor.__get__"))
  tak : takesIn K (.builtin "object.__class__") = some true
theorem ErrC.data {K : PySem.W.Frag} {C : Addr} (T : ErrC K C) : ∃ cd, clsIn K C = some cd ∧ Opens cd.mro ∧ cd.hasDict = true := by
  obtain ⟨B, newId, initId, bmB, nm, q, N, bs, bm, sn, sub, ab, col, dd, k0, k1, k2, k3, k5, F, U, O, l⟩ := T.cls
  refine ⟨{ name := nm, bases := bs, mro := .ref C :: bm, ns := N, qualname := q, hasDict := true, slotNames := sn, subclasses := sub, abstract := ab, collection := col, hasDel := false }, ?_, O.ref, rfl⟩
  unfold PySem.W.clsIn
  rw [l] <;> rfl
section
variable {X : Cx} {pins : List (Addr × Obj)} {σ : St} {H : Hp} {s : Shared} {a C dx : Addr} {f : Str} {y : V} {u : Value} {fs : List (Str × V)}
variable {Q : Unit → Shared → Prop} {E : Value → Shared → Prop} {A : Around}
/-- self.f = y, the first store -/
theorem put1 (T : ErrC X.K C) (I : Inv X pins σ H s) (e : H a = some (exo a C none)) (no : findIn X.K (.ref C) f = some none) (ry : RelV y u)
    (h : ∀ dx s', H dx = none → dx ≠ a → Inv X pins σ (upd (upd H dx (exd dx [(f, y)])) a (exo a C (some dx))) s' → Q () s') :
    wpAny (model X.prog X.w) A (setAttr (.ref a) f u) Q E s := by
  obtain ⟨cd, hcd, hO, hD⟩ := T.data
  obtain ⟨t1, ho⟩ := exo_at I.hok e
  obtain ⟨hp, g, d, t, os⟩ := s
  refine PySem.W.set_plain I.kIn (ox := { cls := .ref C, dict := none, data := .fields #[.ref t1, .none, .none, .none, .bool false, .none] }) (od := none) ⟨ho, rfl, rfl, trivial⟩ T.sa ?_
  refine putFirst I.kIn ho hcd hO hD no fun h' tk' dx k dn dne hx hn => ?_
  have nd : H dx = none := I.hok.fresh dn
  have old : ∀ {b : Addr} {o : Obj}, hp.get? b = some o → b ≠ dx := fun {b o} z => Nat.ne_of_lt (Nat.lt_of_lt_of_le (Heap.lt_size z) dn)
  have off : ∀ {b : Addr}, H b = none → b ≠ a := fun {b} n z => by
    rw [z, e] at n
    cases n
  have U : Un X.fs [] H (upd (upd H dx (exd dx [(f, y)])) a (exo a C (some dx))) hp h' := by
    refine ⟨fun b o z n _ _ => k b o (off n) z, fun b o z n _ _ => ⟨o.slots, k b o (off n) z⟩, fun b o z n _ => ?_, fun b o z _ => ?_, fun b xs z => ?_, fun b o v z => ?_, fun b ps z => ⟨#[], ?_⟩⟩
    · rw [upd_ne (off n), upd_ne (old z)]
      exact n
    · by_cases hb : b = a
      · exact ⟨_, hb ▸ hx⟩
      · exact ⟨o, k b o hb z⟩
    · rw [upd_ne (at_ne e z exo_tup), upd_ne (ne_of_none z nd)]
      exact z
    · rw [upd_ne (at_ne e z exo_frz), upd_ne (ne_of_none z nd)]
      exact z
    · rw [upd_ne (at_ne e z exo_tbl), upd_ne (ne_of_none z nd), z]
      simp
  refine h dx _ nd dne (I.un (t' := tk') U fun b o z => ?_)
  by_cases hb : b = a
  · subst hb
    rw [upd_same] at z
    cases z
    exact exo_ok hx
  · rw [upd_ne hb] at z
    by_cases hd : b = dx
    · subst hd
      rw [upd_same] at z
      cases z
      exact exd_ok hn (relO_put (fs := []) ry fun _ => True.intro)
    · rw [upd_ne hd] at z
      refine (I.hok b o z).stay (fun c v hc r => k c v ?_ r) (fun c hc => ?_) fun c xs hc => ?_
      · rcases hc with hc | hc
        · exact hc ▸ hb
        · exact at_ne e hc exo_own
      · rw [upd_ne (at_ne e hc exo_own), upd_ne (ne_of_none hc nd)]
        exact hc
      · rw [upd_ne (at_ne e hc exo_tup), upd_ne (ne_of_none hc nd)]
        exact hc
/-- self.f = y, a further store -/
theorem put2 (T : ErrC X.K C) (I : Inv X pins σ H s) (e : H a = some (exo a C (some dx))) (ed : H dx = some (exd dx fs)) (hl : fs.length ≤ 900)
    (no : findIn X.K (.ref C) f = some none) (ry : RelV y u) (h : ∀ s', Inv X pins σ (upd H dx (exd dx ((f, y) :: fs))) s' → Q () s') :
    wpAny (model X.prog X.w) A (setAttr (.ref a) f u) Q E s := by
  obtain ⟨cd, hcd, hO, hD⟩ := T.data
  obtain ⟨t1, ho⟩ := exo_at I.hok e
  obtain ⟨mA, hns, rel⟩ := exd_at I.hok ed
  have hw := within_of rel
  obtain ⟨hp, g, d, t, os⟩ := s
  obtain ⟨oD, _, _, hoD, _, _⟩ := hns.count hw
  refine PySem.W.set_plain I.kIn (ox := { cls := .ref C, dict := some dx, data := .fields #[.ref t1, .none, .none, .none, .bool false, .none] }) (od := some oD) ⟨ho, rfl, rfl, hoD⟩ T.sa ?_
  refine putMore I.kIn ho hns hw (by rw [List.length_map]; omega) hcd hO hD no fun h' tk' k hn => ?_
  have there : ∃ o, h'.get? dx = some o := by
    obtain ⟨o, _, _, z, _⟩ := hn
    exact ⟨o, z⟩
  exact h _ (I.write (t' := tk') (x := dx) (e := dx) (o := exd dx ((f, y) :: fs)) (by rw [ed]; exact True.intro) (.inl rfl) k there (exd_ok hn (relO_put ry rel)))
end
/-- o.f = e, o such an exception -/
def tPut (K : PySem.W.Frag) (f : Str) (to te : TE) : TS := fun D σ H => te σ H fun y H1 => to σ H1 fun x H2 => ∃ a C : Addr, x = .ref a ∧ ErrC K C ∧ findIn K (.ref C) f = some none ∧
  ((H2 a = some (exo a C none) ∧ ∀ dx, H2 dx = none → dx ≠ a → D.nx σ (upd (upd H2 dx (exd dx [(f, y)])) a (exo a C (some dx)))) ∨
    ∃ (dx : Addr) (fs : List (Str × V)), H2 a = some (exo a C (some dx)) ∧ H2 dx = some (exd dx fs) ∧ fs.length ≤ 900 ∧ D.nx σ (upd H2 dx (exd dx ((f, y) :: fs))))
theorem psPut {X : Cx} {o e : Expr} {to te : TE} {f : Str} {p' pos : Pos} (ho : PE X o to) (he : PE X e te) (hs : swapsWith e (some (.Attribute o f p')) pos.line X.env = pure false := by rfl) :
    PS X (.Assign [.Attribute o f p'] e pos) (tPut X.K f to te) := by
  refine ⟨fun pins s σ H D I h => ?_⟩
  refine plainObj_wpAny_Assign_Attribute (thn (he.run pins s σ H _ I h) fun v s1 ⟨y, H1, I1, r1, q1⟩ => ?_) hs
  refine thn (ho.run pins s1 σ H1 _ I1 q1) fun u s2 ⟨x, H2, I2, r2, a, C, ex, T, no, q⟩ => ?_
  subst ex
  obtain rfl : u = Value.ref a := r2
  rcases q with ⟨ea, q⟩ | ⟨dx, fs, ea, ed, hl, q⟩
  · exact put1 T I2 ea no r1 fun dx s' n ne J => ⟨σ, _, J, q dx n ne⟩
  · exact put2 T I2 ea ed hl no r1 fun s' J => ⟨σ, _, J, q⟩
/-- an error stands at a: of the class at C, with these fields -/
def ErrAt (H : Hp) (a C : Addr) (fs : List (Str × V)) : Prop := (fs = [] ∧ H a = some (exo a C none)) ∨ ∃ dx, H a = some (exo a C (some dx)) ∧ H dx = some (exd dx fs)
theorem ErrAt.mono {H H' : Hp} {a C : Addr} {fs : List (Str × V)} (x : ErrAt H a C fs) (k : ∀ b o, H b = some o → H' b = some o) : ErrAt H' a C fs := by
  rcases x with ⟨e, z⟩ | ⟨dx, z1, z2⟩
  · exact .inl ⟨e, k _ _ z⟩
  · exact .inr ⟨dx, k _ _ z1, k _ _ z2⟩
/-- e.f of such an exception -/
def tGet (K : PySem.W.Frag) (te : TE) (f : Str) : TE := fun σ H Q => te σ H fun x H1 => ∃ (a C : Addr) (fs : List (Str × V)) (v : V), x = .ref a ∧ ErrC K C ∧ findIn K (.ref C) f = some none ∧
  ErrAt H1 a C fs ∧ fs.lookup f = some v ∧ Q v H1
theorem peGet {X : Cx} {e : Expr} {te : TE} {pos : Pos} {f : Str} (he : PE X e te) (hb : attributeBase e f X.env (eval e X.env) = eval e X.env := by rfl) :
    PE X (.Attribute e f pos) (tGet X.K te f) := by
  refine ⟨fun pins s σ H Q I h => ?_⟩
  refine attr_of hb (thn (he.run pins s σ H _ I h) fun u s1 hh => ?_)
  obtain ⟨x, H1, I1, rx, a, C, fs, v, ex, T, no, ea, l, q⟩ := hh
  subst ex
  obtain rfl : u = Value.ref a := rx
  rcases ea with ⟨ef, _⟩ | ⟨dx, ea, ed⟩
  · subst ef
    cases l
  · obtain ⟨t1, ho⟩ := exo_at I1.hok ea
    obtain ⟨mA, hns, hr⟩ := exd_at I1.hok ed
    obtain ⟨od, hod, hl⟩ := lookIn_ns hns
    obtain ⟨u, hu, ru⟩ := RelO.some_of (v := v) (o := mA f) (by rw [← l]; exact hr f)
    have J : PySem.W.InstAt s1.heap a { cls := .ref C, dict := some dx, data := .fields #[.ref t1, .none, .none, .none, .bool false, .none] } C (some od) := ⟨ho, rfl, rfl, hod⟩
    exact HandSPX.exc_get I1.kIn J T.ga T.gg T.exc (PySem.W.findObj_own T.dct no rfl (by rw [hl, hu])) (handed_of ru) ⟨v, H1, I1.tok _, ru, q⟩
end L2.Und
end

section
set_option Elab.async false
set_option linter.all false
set_option maxRecDepth 100000
set_option maxHeartbeats 4000000
namespace Und
open PySem PySem.W PySem.Spec PySem.Calls PyProof.Rows
section
variable {prog : Program} {w : World} {A : Around} {E : Value → Shared → Prop} {s : Shared} {K : Frag} {x D : Addr} {ox : Obj} {od : Option Obj}
theorem find_class (hd : hasDictIn K D = true) (ha : findIn K (.ref D) "__class__" = some (some (.builtin "object.__class__")))
    (hn : specialIn K (.builtin "object.__class__") "__get__" = some (some (.builtin "getset_descriptor.__get__"))) (ht : takesIn K (.builtin "object.__class__") = some true) :
    findObj K D od "__class__" = some (.bind (.builtin "getset_descriptor.__get__") (.builtin "object.__class__")) := by
  obtain ⟨cd, hc, _⟩ := any_some hd
  unfold findObj
  rw [hc, Option.bind_some, ha, Option.bind_some]
  simp [hn, ht]
theorem ask_class {Q : Option Value → Shared → Prop} (ga : findIn K (.ref D) "__getattribute__" = some (some (.builtin "BaseException.__getattribute__")))
    (gg : findIn K (.ref D) "__getattr__" = some none) (exc : subIn K (.ref D) (.type "BaseException") = some true) (hd : hasDictIn K D = true)
    (ha : findIn K (.ref D) "__class__" = some (some (.builtin "object.__class__"))) (hn : specialIn K (.builtin "object.__class__") "__get__" = some (some (.builtin "getset_descriptor.__get__")))
    (ht : takesIn K (.builtin "object.__class__") = some true) (hm : mroIn K D (.type "object") = some true) (X : K.In s.heap) (I : InstAt s.heap x ox D od)
    (h : Q (some (.ref D)) { s with toks := s.toks + 1 }) : wpAny (model prog w) A (getAttr? (.ref x) "__class__") Q E s := by
  have hf := find_class (od := od) hd ha hn ht
  obtain ⟨hp, g, d, t, os⟩ := s
  have c0 := I.type (M := model prog w)
  have c1 := looks_findIn (M := model prog w) X ga
  have c2 := looks_findIn (M := model prog w) X gg
  have c3 := looks_find (M := model prog w) X I hf
  have c4 : Looks (model prog w) hp (isInstance (.ref x) (.type "BaseException")) true := c0.andThen (looks_subIn X exc)
  have z0 : (false && onTheHeap (Value.builtin "BaseException.__getattribute__")) = false := rfl
  have z2 : (Value.builtin "BaseException.__getattribute__" == Value.builtin "object.__getattribute__") = false := by decide +kernel
  have z1 : (onTheHeap (Value.ref D) && Value.builtin "BaseException.__getattribute__" == Value.builtin "object.__getattribute__") = false := by
    rw [z2]
    rfl
  unfold getAttr? getAttrBy? getAttrBy
  refine wpAny_bind (wpAny_mkText (wpAny_bind (wpAny_attempt (wpAny_holding (wpAny_bind (c0.at (wpAny_bind (c1.at ?_))))))))
  show wpAny _ _ (if (onTheHeap (Value.ref D) && Value.builtin "BaseException.__getattribute__" == Value.builtin "object.__getattribute__") = true then _ else _) _ _ _
  rw [z1, if_neg Bool.false_ne_true]
  unfold getAttrByItsOwn hookBefore
  refine wpAny_bind ?_
  rw [if_pos (show onTheHeap (Value.ref D) = true from rfl)]
  refine c2.at (wpAny_bind (wpAny_attempt (wpAny_holding ?_)))
  unfold callGetattribute
  rw [z0, if_neg Bool.false_ne_true]
  unfold boundAndCalled
  rw [PySem.F.excAttr_ValueError.ga.bind (.ref x)]
  refine wpAny_bind (wpAny_pure ?_)
  show wpAny _ _ (call (.builtin "BaseException.__getattribute__") [.ref x, .str "__class__" t]) _ _ _
  refine wpAny_call (codeAny_call_builtin PySem.F.excAttr_ValueError.ga.plain PySem.F.entry_bexc_ga ?_)
  have zk : builtinKind "BaseException.__getattribute__" = some .slot := by decide +kernel
  have zs : splitId "BaseException.__getattribute__" = some ("BaseException", "__getattribute__") := by decide +kernel
  refine @check_slot (model prog w) _ _ ⟨hp, g, d, t + 1, os⟩ "BaseException.__getattribute__" "BaseException" "__getattribute__" (.ref x) [.str "__class__" t] [] _ zk zs c4 (PySem.F.args_bexc_ga (.ref x) (.str "__class__" t)) ?_
  unfold Builtin.«object.__getattribute__»
  refine wpAny_bind (wpAny_of_eq (a := ((Value.ref x : Value), [Value.str "__class__" t])) (by first | rfl | (simp only [slotArgs]; rfl)) ?_)
  refine wpAny_bind (wpAny_pure (wpAny_bind (c0.at (wpAny_bind (c3.at ?_)))))
  show wpAny _ _ (holding [Value.builtin "object.__class__"] (call (.builtin "getset_descriptor.__get__") [.builtin "object.__class__", .ref x, .ref D]) >>= ret) _ _ _
  refine wpAny_bind (wpAny_holding (wpAny_call (class_get (s := ⟨hp, g, d, t + 1, os⟩) (ox := ox) (od := od) X I hm (wpAny_pure ?_))))
  show wpAny _ _ (handedOut (.ref D)) _ _ _
  rw [handedOut_of (v := .ref D) rfl]
  first
    | exact wpAny_pure (wpAny_pure h)
    | exact wpAny_pure h
    | exact wpAny_pure (wpAny_bind (wpAny_pure (wpAny_pure h)))
theorem kit_err (ga : findIn K (.ref D) "__getattribute__" = some (some (.builtin "BaseException.__getattribute__")))
    (gg : findIn K (.ref D) "__getattr__" = some none) (exc : subIn K (.ref D) (.type "BaseException") = some true) (hd : hasDictIn K D = true)
    (ha : findIn K (.ref D) "__class__" = some (some (.builtin "object.__class__"))) (hn : specialIn K (.builtin "object.__class__") "__get__" = some (some (.builtin "getset_descriptor.__get__")))
    (ht : takesIn K (.builtin "object.__class__") = some true) (hm : mroIn K D (.type "object") = some true) : KitX K (.ref x) (.ref D) (fun h => InstAt h x ox D od) := by
  obtain ⟨cd, hc, _⟩ := any_some hd
  have there : ∃ c' d' cd' sl', K.lookup D = some ⟨c', d', .cls cd', sl'⟩ := by
    unfold clsIn at hc
    split at hc
    · rename_i c' d' cd' sl' ho
      exact ⟨c', d', cd', sl', ho⟩
    · cases hc
  obtain ⟨c', d', cd', sl', ho⟩ := there
  refine ⟨fun _ _ _ I => I.type, fun _ _ X _ => ?_, fun h tp dd its n sl X htp => ?_, fun X I k => ask_class ga gg exc hd ha hn ht hm X I k⟩
  · intro A' Q' E' s' k q
    unfold isType loadHead
    exact wpAny_bind (wpAny_loadPart (k _ _ (X _ _ ho)) (wpAny_pure q))
  · refine Bool.eq_false_iff.mpr fun q => ?_
    have e : D = tp := Value.ref.inj (beq_iff_eq.mp q)
    subst e
    have z := (X _ _ ho).symm.trans htp
    cases z
end
end Und
namespace L2.Und
open PySem PySem.Spec PyProof.Rows _root_.Und
open PySem.W (findIn keepIn subIn hasDictIn specialIn takesIn mroIn clsIn typeIn)
section
variable {X : Cx} {CX : CXT} {k : Nat} {fI C : Addr} {fd : FuncData} {ps ks : List Str} {sp : Sp} {E : XK} {x : Str} {p pos : Pos} {e : Expr} {es : List Expr} {kws : List Keyword} {t tk : TA}
variable {g : List Value → List Value → List Value} {gV : List V → List V → List V} {n : Nat}
/-- the error is laid, then its own __init__ runs -/
theorem runErr {pins : List (Addr × Obj)} {σ : St} {H : Hp} {s : Shared} {Q : VK} {us ws : List Value} {vs zs : List V} (T : ErrC X.K C)
    (iC : findIn X.K (.ref C) "__init__" = some (some (.ref fI))) (tI : typeIn X.K (.ref fI) = some (.type "function"))
    (F : FnOk X.prog X.w X.K X.mg X.base CX k fI fd ps sp) (hr : Room (k + 1) X.A) (hb : KBn X.K fd ps (n + 1) ks g gV) (hx : Passes CX X E)
    (I : Inv X pins σ H s) (r : Vals vs us) (rz : Vals zs ws) (l1 : vs.length = n) (l2 : zs.length = ks.length) (l3 : n ≤ 1000)
    (h : ∀ a, H a = none → sp (gV (.ref a :: vs) zs) (upd H a (exo a C none)) (fun v H2 => v = .non ∧ Q (.ref a) H2) E) :
    wpAny (model X.prog X.w) X.A (call (.ref C) us (ks.zip ws)) (EP X pins σ Q) X.xe s := by
  obtain ⟨B, newId, initId, bmB, nm, q, N, bs, bm, sn, sub, ab, col, dd, k0, k1, k2, k3, k5, FB, U, O, hC⟩ := T.cls
  obtain ⟨hp, gs, dr, tk, os⟩ := s
  have big : hp.objs.size ≤ hp.objs.size + 1 := Nat.le_succ _
  have nn : H (hp.objs.size + 1) = none := I.hok.fresh big
  have hq := h (hp.objs.size + 1) nn
  have up : ∀ b o, hp.get? b = some o → ((hp.push (PySem.W.kdv_tup us)).push (PySem.HandSPX.excO C hp.objs.size)).get? b = some o :=
    fun b o z => Heap.get?_push_of_some _ (Heap.get?_push_of_some _ z)
  have laid : ((hp.push (PySem.W.kdv_tup us)).push (PySem.HandSPX.excO C hp.objs.size)).get? (hp.objs.size + 1) = some (PySem.HandSPX.excO C hp.objs.size) := by heap_get
  have I2 : Inv X pins σ (upd H (hp.objs.size + 1) (exo (hp.objs.size + 1) C none)) ⟨(hp.push (PySem.W.kdv_tup us)).push (PySem.HandSPX.excO C hp.objs.size), gs, dr, tk, os⟩ :=
    I.laid (t' := tk) (a := hp.objs.size + 1) up big (exo_ok laid)
  have r1 : Vals (V.ref (hp.objs.size + 1) :: vs) (Value.ref (hp.objs.size + 1) :: us) := .cons rfl r
  have e0 : us.length = n := r.length.symm.trans l1
  have e1 : (Value.ref (hp.objs.size + 1) :: us).length = n + 1 := congrArg Nat.succ e0
  have e2 : ws.length = ks.length := rz.length.symm.trans l2
  have hz : us.length ≤ sizeLine := by
    rw [e0, sizeLine_eq]
    omega
  refine wpAny_call (madeBy FB U (I.kIn _ _ hC) hz (PySem.W.looks_findIn I.kIn iC) (fun self => PySem.W.bind_fn I.kIn self tI) ?_)
  refine codeAny_mono (F.run _ X.stack _ _ ⟨Value.ref (hp.objs.size + 1) :: us, ks.zip ws⟩ (g (Value.ref (hp.objs.size + 1) :: us) ws) _ _ E (hr.make C us (ks.zip ws))
    (I2.env0.make C us (ks.zip ws)) (hb.to _ _ ws I2.kIn e1 e2) (hb.rel r1 rz) hq) fun r s' z => ?_
  cases r with
  | error e => exact hx pins σ _ _ e s' I2 z
  | ok fl =>
    cases fl with
    | ret u =>
      obtain ⟨v, H', I3, rv, ev, q3⟩ := I2.after z
      subst ev
      exact ⟨rv, V.ref (hp.objs.size + 1), H', I3, rfl, q3⟩
    | next => exact z.elim
    | brk => exact z.elim
    | cont => exact z.elim
/-- C(e, ..) -/
def tErr (C : Addr) (n : Nat) (sp : Sp) (gV : List V → List V → List V) (E : XK) (t : TA) : TE := fun σ H Q => t σ H fun vs H1 => vs.length = n ∧
  ∀ a, H1 a = none → sp (gV (.ref a :: vs) []) (upd H1 a (exo a C none)) (fun v H2 => v = .non ∧ Q (.ref a) H2) E
theorem peErr (T : ErrC X.K C) (iC : findIn X.K (.ref C) "__init__" = some (some (.ref fI))) (tI : typeIn X.K (.ref fI) = some (.type "function"))
    (F : FnOk X.prog X.w X.K X.mg X.base CX k fI fd ps sp) (hr : Room (k + 1) X.A) (hb : KBn X.K fd ps (n + 1) [] g gV) (hx : Passes CX X E) (hn : n ≤ 1000)
    (hg : Gl X x) (hm : X.mg x = some (.ref C)) (ha : PA X (e :: es) t) (hdb : (x == ("__debug__" : Str)) = false := by decide)
    (he : starEach (e :: es) X.env = (false, eval e X.env) :: starEach es X.env := by rfl) (hpl : (backTo pos (starEach es X.env)).any (·.1) = false := by rfl) :
    PE X (.Call (.Name x p) (e :: es) [] pos) (tErr C n sp gV E t) := by
  refine ⟨fun pins s σ H Q I h => ?_⟩
  refine wpAny_Call_Name_kw (ld_glob I hg hm ?_ hdb)
  refine PySem.W.callWith_K (h₀ := X.base) I.ok.mod.kin T.keep (thn (ha.run pos pins s σ H _ I h) fun us s1 ⟨vs, H1, I1, r, l1, q⟩ => ⟨I1.kIn, ?_⟩) he hpl
  exact runErr (ws := []) (zs := []) T iC tI F hr hb hx I1 r .nil l1 rfl hn q
/-- C(k = v, ..) -/
def tErrK (C : Addr) (m : Nat) (sp : Sp) (gV : List V → List V → List V) (E : XK) (tk : TA) : TE := fun σ H Q => tk σ H fun zs H1 => zs.length = m ∧
  ∀ a, H1 a = none → sp (gV [.ref a] zs) (upd H1 a (exo a C none)) (fun v H2 => v = .non ∧ Q (.ref a) H2) E
theorem peErrK (T : ErrC X.K C) (iC : findIn X.K (.ref C) "__init__" = some (some (.ref fI))) (tI : typeIn X.K (.ref fI) = some (.type "function"))
    (F : FnOk X.prog X.w X.K X.mg X.base CX k fI fd ps sp) (hr : Room (k + 1) X.A) (hb : KBn X.K fd ps 1 ks g gV) (hx : Passes CX X E)
    (hg : Gl X x) (hm : X.mg x = some (.ref C)) (hkw : PK X kws tk) (hall : (backToKw pos (keywordEach kws X.env)).all (·.1.isSome) = true := by rfl)
    (hks : (backToKw pos (keywordEach kws X.env)).filterMap (·.1) = ks := by rfl) (hdb : (x == ("__debug__" : Str)) = false := by decide)
    (hpl : ((backTo pos (starEach [] X.env)).any (·.1) || (backToKw pos (keywordEach kws X.env)).any (·.1.isNone)) = false := by rfl) :
    PE X (.Call (.Name x p) [] kws pos) (tErrK C ks.length sp gV E tk) := by
  refine ⟨fun pins s σ H Q I h => ?_⟩
  refine wpAny_Call_Name_kw (ld_glob I hg hm ?_ hdb)
  refine PySem.W.callWith_KW0 (h₀ := X.base) I.ok.mod.kin T.keep hall (thn (hkw.run pos pins s σ H _ I h) fun ws s1 ⟨zs, H1, I1, r, l1, q⟩ => ⟨I1.kIn, ?_⟩) hpl
  rw [hks]
  exact runErr (n := 0) (us := []) (vs := []) T iC tI F hr hb hx I1 .nil r rfl l1 (by omega) q
/-- C(), a class without an __init__ of its own -/
theorem peErr0 {bmB : List Value} {B newId initId : String} (FB : ExcBaseFacts B newId initId bmB) (q : PySem.W.excIn X.K C bmB newId = true) (kC : keepIn X.K (.ref C) = true)
    (hg : Gl X x) (hm : X.mg x = some (.ref C)) (hdb : (x == ("__debug__" : Str)) = false := by decide) :
    PE X (.Call (.Name x p) [] [] pos) (fun _ H Q => ∀ a, H a = none → Q (.ref a) (upd H a (exo a C none))) := by
  refine ⟨fun pins s σ H Q I h => ?_⟩
  refine wpAny_Call_Name_kw (ld_glob I hg hm ?_ hdb)
  refine PySem.W.callWith_K0 I.kIn kC ?_
  show wpAny _ _ (call (.ref C) []) _ _ _
  obtain ⟨bm, N, nm, qn, bs, hdct, sn, sub, ab, col, dd, k0, k1, k2, k3, k5, mN, hC, hN, hni, T⟩ := exc_obj I.kIn q
  refine wpAny_call_exc_subT FB T hC hN hni (fun h' a hm => ?_) (by show 0 ≤ sizeLine; omega)
  have hn : H a = none := I.hok.gone hm.new
  obtain ⟨t, ht, _, _⟩ := hm.there
  exact ⟨.ref a, upd H a (exo a C none), I.laidN hm.keeps hm.new hn (exo_ok ht), rfl, h a hn⟩
end
/-- isinstance(e, c), e such an error -/
def rIsErr (K : PySem.W.Frag) : List V → Hp → VK → Prop := fun xs H Q => ∃ (a C : Addr) (fs : List (Str × V)) (c : V) (u : Value) (b : Bool), xs = [.ref a, c] ∧ ClsV c u ∧ ErrC K C ∧ ErrAt H a C fs ∧
  PySem.W.kitOne K (.ref C) u = some b ∧ Q (.bl b) H
theorem callIsErr {X : Cx} (G : ErrG X.K) : CallR X (.builtin "isinstance") (rIsErr X.K) := by
  intro pins s σ H xs us Q I r h
  obtain ⟨a, C, fs, c, u, b, rfl, hc, T, ea, eb, q⟩ := h
  obtain ⟨u1, u2, rfl, r1, r2⟩ := vals2 r
  cases (show u1 = Value.ref a from r1)
  have e2 := hc.eq r2
  subst e2
  have fin : ∀ tk, EP X pins σ Q (.bool b) { s with toks := tk } := fun tk => ⟨.bl b, H, I.tok tk, rfl, q⟩
  rcases ea with ⟨_, ea⟩ | ⟨dx, ea, ed⟩
  · obtain ⟨t1, ho⟩ := exo_at I.hok ea
    have J : PySem.W.InstAt s.heap a { cls := .ref C, dict := none, data := .fields #[.ref t1, .none, .none, .none, .bool false, .none] } C none := ⟨ho, rfl, rfl, trivial⟩
    exact PySem.W.kia_one (kit_err T.ga T.gg T.exc T.dct T.kls G.get G.tak T.obj) I.kIn J eb (fun z => nomatch z) fin
  · obtain ⟨t1, ho⟩ := exo_at I.hok ea
    obtain ⟨mA, hns, _⟩ := exd_at I.hok ed
    obtain ⟨od, hod, _⟩ := lookIn_ns hns
    have J : PySem.W.InstAt s.heap a { cls := .ref C, dict := some dx, data := .fields #[.ref t1, .none, .none, .none, .bool false, .none] } C (some od) := ⟨ho, rfl, rfl, hod⟩
    exact PySem.W.kia_one (kit_err T.ga T.gg T.exc T.dct T.kls G.get G.tak T.obj) I.kIn J eb (fun z => nomatch z) fin
end L2.Und
end

section
set_option Elab.async false
set_option linter.all false
set_option maxRecDepth 100000
set_option maxHeartbeats 4000000
namespace L2.Und
open PySem PySem.Spec PyProof.Rows _root_.Und
/-- repr(x), x a list or a tuple of data -/
def rShow (K : PySem.W.Frag) : List V → Hp → VK → Prop := fun xs H Q => ∃ (a : Addr) (d : PyData), xs = [.ref a] ∧ Dp K H (.ref a) d ∧ d.showable = true ∧ d.hasDict = false ∧ d.depth ≤ 40 ∧
  d.shown.length ≤ sizeLine ∧ Q (.str d.shown) H
theorem callShow {X : Cx} (hg : X.A.guards = some []) (hu : X.A.units + 64 < cLine) : CallR X (.builtin "repr") (rShow X.K) := by
  intro pins s σ H xs us Q I r h
  obtain ⟨a, d, rfl, hd, h1, h2, h3, h4, q⟩ := h
  obtain ⟨u, rfl, ru⟩ := vals1 r
  cases (show u = Value.ref a from ru)
  obtain ⟨as, rd⟩ := Dp.reads I d (.ref a) (.ref a) hd rfl
  refine repr_of_reads' (h₀ := s.heap) rd h1 (fun z => ?_) hg (by omega) (fun _ _ e => e) (fun h' u tk k => ?_) h4
  · rw [h2] at z
    cases z
  · exact ⟨.str d.shown, H, I.kept (t' := tk) k, ⟨u, rfl⟩, q⟩
/-- a def that keeps its promise where no repr is under way -/
structure FnG (P : Program) (w : World) (K : PySem.W.Frag) (mg : Str → Option Value) (base : Heap) (k : Nat) (f : Addr) (fd : FuncData) (ps : List Str) (sp : Sp) : Prop where
  len : ∀ vs H Q E, sp vs H Q E → vs.length = ps.length
  run : ∀ (A : Around) (outer : List Env) (s : Shared) (H : Hp) (us : List Value) (vs : List V) (Q : VK) (E : XK), A.guards = some [] → Room k A →
    Env0 P w K mg base A outer s H → BindsTo s fd ⟨us, []⟩ (ps.zip us) → Vals vs us → sp vs H Q E → codeAny (model P w) A (.call (.ref f) ⟨us, []⟩) (CR CX0 outer P w H s Q E) s
section
variable {P : Program} {w : World} {K : PySem.W.Frag} {mg : Str → Option Value} {base : Heap}
theorem okG {x qual : Str} {st : Stmt} {f : Addr} {fd : FuncData} {N ps : List Str} {k : Nat} {sp : Sp} (F : Fun K x qual st f fd) (S : FnScope N ps (defScope st))
    (len : ∀ vs H Q E, sp vs H Q E → vs.length = ps.length)
    (body : ∀ (cdv : Value) (A : Around) (outer : List Env) (s : Shared) (H : Hp) (vs : List V) (Q : VK) (E : XK), A.guards = some [] →
      Room k (A.deeper (envOfC qual (defScope st) s.heap.objs.size f cdv)) → sp vs H Q E →
      ∃ t, PSs (cxOf CX0 P w K mg base N qual (defScope st) f cdv A outer s H E).nox (defBody st) t ∧ t { nx := fun _ H' => Q .non H', rt := Q } (start N vs) H) :
    FnG P w K mg base (k + 1) f fd ps sp := by
  obtain ⟨oc, od, kV, doc, pm, an, cdv, ct, osl, rfl, lk, hcd⟩ := F.ex
  refine ⟨len, fun A outer s H us vs Q E hA hr e0 hb r hsp => ?_⟩
  have hl := len _ _ _ _ hsp
  have up : ∀ b o, base.get? b = some o → s.heap.get? b = some o := fun b o e => (e0.bs b o e).1
  have KX : K.In s.heap := e0.mod.kin.keeps up
  have kinds : ∀ y ∈ ps.zip us, (defScope st).names.lookup y.1 = some .local ∨
      ((defScope st).names.lookup y.1 = some .cell ∧ ((cellsFrom (s.heap.objs.size + 1) (defScope st).names []).lookup y.1).isSome = true) := by
    rintro ⟨n, v⟩ hy
    rcases S.par n (List.of_mem_zip hy).1 with z | z
    · exact .inl z
    · exact .inr ⟨z, PySem.W.cellsFrom_some _ _ _ (.inl z)⟩
  refine codeAny_call_function hr.depth (KX _ _ lk) rfl S.co S.gen rfl (PySem.W.codeRec_of KX hcd) (hb _ _ _ _ ?_)
  refine wpAny_newFunctionEnv_cells S.kind kinds fun env he s1 x => ?_
  subst he
  refine ⟨(e0.mod.nolimit.keeps up).keeps x.toInCall.keep, codeAny_func ?_⟩
  obtain ⟨t, ht, hq⟩ := body cdv A outer s H vs Q E hA (hr.deeper _) hsp
  have I : Inv (cxOf CX0 P w K mg base N qual (defScope st) f cdv A outer s H E) [] (start N vs) H s1 := inv_start S hr.hd e0 hl r x
  refine wpAny_mono (ht.nox.run [] s1 (start N vs) H _ I hq) (fun fl s' z => ?_) fun _ _ z => z
  cases fl with
  | ret u =>
    obtain ⟨v, σ', H', J, rv, q⟩ := z
    exact ⟨v, H', J.os, J.bare, J.base, J.hok, rv, q⟩
  | next =>
    obtain ⟨σ', H', J, q⟩ := z
    exact ⟨.non, H', J.os, J.bare, J.base, J.hok, rfl, q⟩
  | brk =>
    obtain ⟨_, _, _, q⟩ := z
    exact q.elim
  | cont =>
    obtain ⟨_, _, _, q⟩ := z
    exact q.elim
end
section
variable {X : Cx} {k : Nat} {f : Addr} {fd : FuncData} {ps : List Str} {sp : Sp} {x : Str} {p pos : Pos} {e : Expr} {es : List Expr} {t : TA} {E : XK}
theorem peCallG (F : FnG X.prog X.w X.K X.mg X.base k f fd ps sp) (hA : X.A.guards = some []) (hr : Room k X.A) (hg : Gl X x) (hm : X.mg x = some (.ref f)) (hk : PySem.W.keepIn X.K (.ref f) = true)
    (hb : Binds X.K fd ps []) (ha : PA X (e :: es) t) (hdb : (x == ("__debug__" : Str)) = false := by decide)
    (he : starEach (e :: es) X.env = (false, eval e X.env) :: starEach es X.env := by rfl) (hpl : (backTo pos (starEach es X.env)).any (·.1) = false := by rfl) :
    PE X (.Call (.Name x p) (e :: es) [] pos) (tCall sp [] E0 t) := by
  refine ⟨fun pins s σ H Q I h => ?_⟩
  refine wpAny_Call_Name_kw (ld_glob I hg hm ?_ hdb)
  refine PySem.W.callWith_K (h₀ := X.base) I.ok.mod.kin hk (thn (ha.run pos pins s σ H _ I h) fun us s1 ⟨vs, H1, I1, r, q⟩ => ⟨I1.kIn, ?_⟩) he hpl
  have q : sp vs H1 Q E0 := by
    have z : sp (vs ++ []) H1 Q E0 := q
    rw [List.append_nil] at z
    exact z
  have hl : us.length = ps.length := r.length.symm.trans (F.len _ _ _ _ q)
  have b := hb s1 us I1.kIn (by rw [List.append_nil]; exact hl)
  rw [List.append_nil] at b
  show wpAny _ _ (call (.ref f) us) _ _ _
  refine wpAny_call (codeAny_mono (F.run X.A X.stack s1 H1 us vs Q E0 hA hr I1.env0 b r q) fun r s' z => ?_)
  cases r with
  | error _ => exact z.elim
  | ok fl =>
    cases fl with
    | ret u => exact I1.after z
    | next => exact z.elim
    | brk => exact z.elim
    | cont => exact z.elim
end
/-- the law's call, from its promise -/
theorem lawCall {P : Program} {w : World} {K : PySem.W.Frag} {mg mb : Str → Option Value} {k : Nat} {fa a : Addr} {fd : FuncData} {x : Str} {sp : Sp} {s0 : Shared} {vs : List Value} {ns : List Int}
    (KX : K.In s0.heap) (hns : s0.heap.Ns mainGlobals mg) (hb : s0.heap.Ns builtinsNs mb) (hbb : ∀ x : Str, x ≠ "__name__" → mb x = bootBuiltins x) (hlim : s0.heap.NoLimit) (hg : s0.gens = #[])
    (ha : s0.heap.get? a = some { cls := .type "list", data := .seq vs.toArray }) (hi : IntsAre vs ns) (hl : ns.length ≤ sizeLine) (hr : Room k callerA)
    (F : ∀ base : Heap, K.In base → base.Ns mainGlobals mg → FnG P w K mg base k fa fd [x] sp) (bind : ∀ (s : Shared) (u : Value), BindsTo s fd ⟨[u], []⟩ [(x, u)])
    (hsp : ∀ H : Hp, Only H → SqL K H a (ns.map V.int) → sp [.ref a] H (fun v _ => v = .bl true) fun _ _ _ => False) :
    codeAny (model P w) callerA (.call (.ref fa) ⟨[.ref a], []⟩) (fun r s' => r = .ok (.ret (.bool true)) ∧ OldK s0.heap s'.heap ∧ s'.os = s0.os ∧ AllBare s'.gens) s0 := by
  have rv := vals_ints hi
  have lenV := hi.length
  have main : ∀ H : Hp, Only H → SqL K H a (ns.map V.int) → HOk P w H s0.heap → (∀ b, H b ≠ none → b = a ∧ K.lookup a = none) →
      codeAny (model P w) callerA (.call (.ref fa) ⟨[.ref a], []⟩) (fun r s' => r = .ok (.ret (.bool true)) ∧ OldK s0.heap s'.heap ∧ s'.os = s0.os ∧ AllBare s'.gens) s0 := by
    intro H hO hS ok hA
    have notA : ∀ {b : Addr} {o : Obj} {es : Array DictEntry} {ep : Nat}, s0.heap.get? b = some o → o.data = .dict es ep → H b = none := by
      intro b o es ep e d
      cases z : H b with
      | none => rfl
      | some u =>
        obtain ⟨z1, _⟩ := hA b (by rw [z]; simp)
        subst z1
        rw [ha] at e
        cases e
        have d' : Data.seq vs.toArray _ = Data.dict es ep := d
        cases d'
    have keepNs : ∀ {b : Addr} {m : Str → Option Value}, s0.heap.Ns b m → (hidT s0.heap H).Ns b m := by
      rintro b m ⟨o, es, ep, e, d, r⟩
      exact ⟨o, es, ep, hidT_get e (notA e d), d, r⟩
    have KB : K.In (hidT s0.heap H) := by
      intro b o e
      refine hidT_get (KX b o e) ?_
      cases z : H b with
      | none => rfl
      | some u =>
        obtain ⟨z1, z2⟩ := hA b (by rw [z]; simp)
        subst z1
        rw [z2] at e
        cases e
    have lim : (hidT s0.heap H).NoLimit := by
      obtain ⟨mc, h1, h2⟩ := hlim
      exact ⟨mc, keepNs h1, h2⟩
    have M : Mod K mg (hidT s0.heap H) := ⟨KB, keepNs hns, ⟨mb, keepNs hb, hbb⟩, lim⟩
    have e0 : Env0 P w K mg (hidT s0.heap H) callerA [] s0 H :=
      ⟨rfl, M, fun b o e => of_hidT e, Nat.le_of_eq (hidT_size _ _), trivial, fun b z => absurd (show b ∈ ([] : List Addr) from z) (by simp), ok, .of_eq hg⟩
    refine codeAny_mono ((F _ KB (keepNs hns)).run callerA [] s0 H [.ref a] [.ref a] _ _ rfl hr e0 (bind s0 (.ref a)) (.cons rfl .nil) (hsp H hO hS)) fun r s' z => ?_
    cases r with
    | error e => exact z.elim
    | ok fl =>
      cases fl with
      | next => exact z.elim
      | brk => exact z.elim
      | cont => exact z.elim
      | ret u =>
        obtain ⟨v, H', os, bare, un, ok', r', q⟩ := z
        have q' : v = .bl true := q
        subst q'
        obtain rfl : u = Value.bool true := r'
        refine ⟨rfl, OldK.of_keep fun b o e => ?_, os, bare⟩
        rcases hO b with n | ⟨ob, xs, n⟩
        · exact un.keep b o e n (fun z => absurd (show b ∈ ([] : List Addr) from z) (by simp)) (by simp)
        · obtain ⟨e1, _⟩ := ok b _ n
          obtain ⟨e2, _⟩ := ok' b _ (un.frzs b ob _ n)
          rw [e] at e1
          cases e1
          exact e2
  cases hk : K.lookup a with
  | some o =>
    have e := KX a o hk
    rw [ha] at e
    cases e
    refine main (fun _ => none) (fun _ => .inl rfl) (.inr ⟨_, vs.toArray, _, hk, rfl, rfl, rfl, ?_, by simpa using rv⟩) (fun b u z => ?_) fun b z => absurd rfl z
    · rw [List.size_toArray, lenV]
      exact hl
    · have z' : (none : Option HO) = some u := z
      cases z'
  | none =>
    have at1 : ∀ b, b ≠ a → (fun c => if c = a then some (HO.frz { cls := .type "list", data := .seq vs.toArray } (.lst (ns.map V.int))) else none) b = none := fun b hb => if_neg hb
    refine main (fun c => if c = a then some (.frz { cls := .type "list", data := .seq vs.toArray } (.lst (ns.map V.int))) else none) (fun b => ?_) (.inl (.inr ⟨{ cls := .type "list", data := .seq vs.toArray }, if_pos rfl⟩)) (fun b u z => ?_) (fun b z => ?_)
    · by_cases hb : b = a
      · exact .inr ⟨_, _, if_pos hb⟩
      · exact .inl (if_neg hb)
    · by_cases hb : b = a
      · have z' := (if_pos hb).symm.trans z
        cases z'
        subst hb
        exact ⟨ha, by rw [List.length_map]; exact hl, vs, _, rv, ha⟩
      · have z' := (if_neg hb).symm.trans z
        cases z'
    · by_cases hb : b = a
      · exact ⟨hb, hk⟩
      · exact absurd (if_neg hb) z
/-- the goal behind the head, from the law's promise -/
theorem walkG {l : PySem.W.OpenLaw} {n k : Nat} {q : Program} {loose : List Str} {XP : (Str → Option Value) → Heap → Prop} {YP : World → Heap → Prop} {d : DefRec} {K : Params → PySem.W.Frag} {sp : World → Sp} {x : Str}
    (hn : l.most = some n) (hn2 : n ≤ sizeLine) (hdf : d.params.defaults = []) (hr : Room k callerA) (hY : ∀ (w : World) (h : Heap), YP w h → (K w.params).In h)
    (F : ∀ (w : World) (mg : Str → Option Value) (fa : Addr) (h : Heap), (K w.params).In h → h.Ns mainGlobals mg → mg d.name = some (.ref fa) →
      ∃ fd : FuncData, (∀ (s : Shared) (u : Value), BindsTo s fd ⟨[u], []⟩ [(x, u)]) ∧
        ∀ base : Heap, (K w.params).In base → base.Ns mainGlobals mg → FnG l.prog w (K w.params) mg base k fa fd [x] (sp w))
    (hsp : ∀ (w : World) (H : Hp) (a : Addr) (ns : List Int), ns.length ≤ n → Only H → SqL (K w.params) H a (ns.map V.int) → sp w [.ref a] H (fun v _ => v = .bl true) fun _ _ _ => False) :
    PySem.W.WalkO q loose XP YP l.row.toRowW d [] (fun f vs => PySem.call f vs) := by
  refine Att.attach_call hn hdf fun w s0 s1 mg mb fa o pm cd doc a vs ns G Y ho hd hcd hmg obj its len hg => ?_
  have KX := hY w _ Y
  obtain ⟨fd, hb, hF⟩ := F w mg fa _ KX G.T.g hmg
  exact lawCall KX G.T.g G.T.b G.T.builtins G.T.nolimit hg obj its (Nat.le_trans len hn2) hr hF hb fun H hO hS => hsp w H a ns len hO hS
end L2.Und
end

section
set_option Elab.async false
set_option linter.all false
set_option maxRecDepth 100000
set_option maxHeartbeats 4000000
namespace L2.Und
open PySem PySem.Spec PyProof.Rows _root_.Und
/-- the source of draws: the list at d, of the list of great cells at c and the mixed number -/
def Deal (H : Hp) (d c : Addr) : Prop := d ≠ c ∧ ∃ (xs : List Int) (m : Int), H d = some (.lst [.ref c, .int m]) ∧ H c = some (.lst (xs.map V.int)) ∧ (∀ x ∈ xs, 0 < x) ∧ xs.length ≤ 1000 ∧ 0 ≤ m
/-- all but the source stands -/
def Kept (d c : Addr) (H H' : Hp) : Prop := ∀ b o, b ≠ d → b ≠ c → H b = some o → H' b = some o
theorem Kept.refl (d c : Addr) (H : Hp) : Kept d c H H := fun _ _ _ _ h => h
theorem Kept.trans {d c : Addr} {H H1 H2 : Hp} (x : Kept d c H H1) (y : Kept d c H1 H2) : Kept d c H H2 := fun b o h1 h2 h => y b o h1 h2 (x b o h1 h2 h)
def spDraw : Sp := fun vs H Q _ => ∃ (d c : Addr) (n : Int), vs = [.ref d, .int n] ∧ Deal H d c ∧ 0 < n ∧ n.natAbs < 2 ^ 200 ∧ ∀ (r : Int) (H' : Hp), 0 ≤ r → r < n → Deal H' d c → Kept d c H H' → Q (.int r) H'
theorem atI_last {xs : List V} {y : V} (h : xs[xs.length - 1]? = some y) (hn : xs ≠ []) : atI xs ((xs.length : Int) - 1) = some y := by
  have hp : 0 < xs.length := List.length_pos_iff.mpr hn
  have e : (xs.length : Int) - 1 = ((xs.length - 1 : Nat) : Int) := by omega
  rw [e]
  exact atI_nat h
theorem dpAllInts {K : PySem.W.Frag} {H : Hp} : ∀ xs : List Int, DpAll K H (xs.map V.int) (xs.map PyData.int)
  | [] => .nil
  | x :: xs => .cons (.int x) (dpAllInts xs)
theorem dpInts {K : PySem.W.Frag} {H : Hp} {c : Addr} {xs : List Int} (h : SqL K H c (xs.map V.int)) : Dp K H (.ref c) (.list (xs.map PyData.int)) := .lst h (dpAllInts xs)
theorem layInts : ∀ xs : List Int, PyData.canLayAll0 (xs.map PyData.int) = true
  | [] => by simp [PyData.canLayAll0]
  | x :: xs => by simp [PyData.canLayAll0, PyData.canLay0, layInts xs]
theorem depInts : ∀ xs : List Int, PyData.depthAll (xs.map PyData.int) = 0
  | [] => by simp [PyData.depthAll]
  | x :: xs => by simp [PyData.depthAll, PyData.depth, depInts xs]
theorem shapedInts (xs : List Int) : SeqAt.shaped (.list (xs.map PyData.int)) = true := by
  have h := depInts xs
  show (PyData.canLay0 (.list (xs.map PyData.int)) && decide (PyData.depth (.list (xs.map PyData.int)) ≤ 64)) = true
  rw [Bool.and_eq_true]
  refine ⟨by simp only [PyData.canLay0]; exact layInts xs, decide_eq_true ?_⟩
  simp only [PyData.depth]
  omega
def spDeal (K : PySem.W.Frag) : Sp := fun vs H Q _ => ∃ (a : Addr) (ns : List Int) (b : Int), vs = [.ref a, .int b] ∧ SqL K H a (ns.map V.int) ∧ ns.length ≤ 63 ∧ 0 ≤ b ∧ b ≤ 100 ∧
  ∀ (d c : Addr) (H' : Hp), Same H H' → H d = none → H c = none → Deal H' d c → Q (.ref d) H'
/-- the greater one of x and 0 - x -/
def absI (x : Int) : Int := if 0 - x > x then 0 - x else x
theorem absI_nn (x : Int) : 0 ≤ absI x := by
  unfold absI
  split <;> omega
theorem sameNew {H : Hp} {p : Addr} {o : HO} (h : H p = none) : Same H (upd H p o) := fun b u e => by rw [upd_ne (ne_of_none e h)]; exact e
theorem cut_ints (ns : List Int) (lo hi : Option Int) : ∃ zs : List Int, cutV (ns.map V.int) lo hi = zs.map V.int ∧ zs.length ≤ ns.length := by
  unfold cutV
  refine ⟨(ns.drop (HT.sIx (ns.map V.int).length 0 lo)).take (HT.sIx (ns.map V.int).length (ns.map V.int).length hi - HT.sIx (ns.map V.int).length 0 lo), ?_, ?_⟩
  · rw [List.map_take, List.map_drop]
  · rw [List.length_take, List.length_drop]
    omega
theorem fits {n : Nat} (h : n ≤ 1000) : n ≤ sizeLine := Nat.le_of_lt (small1000 h)
theorem Same.tup {K : PySem.W.Frag} {H H' : Hp} {a : Addr} {xs : List V} (e : Same H H') (h : SqT K H a xs) : SqT K H' a xs := by
  rcases h with (h | ⟨o, h⟩) | h
  · exact .inl (.inl (e _ _ h))
  · exact .inl (.inr ⟨o, e _ _ h⟩)
  · exact .inr h
mutual
theorem dpSame {K : PySem.W.Frag} {H H' : Hp} (e : Same H H') : ∀ (d : PyData) (v : V), Dp K H v d → Dp K H' v d
  | .none, _, h => by cases h; exact .non
  | .bool _, _, h => by cases h; exact .bl _
  | .int _, _, h => by cases h; exact .int _
  | .str _, _, h => by cases h; exact .str _
  | .list ds, _, h => by
    cases h with
    | lst hs ha => exact .lst (e.seq hs) (dpSameAll e ds _ ha)
  | .tuple ds, _, h => by
    cases h with
    | tup hs ha => exact .tup (Same.tup e hs) (dpSameAll e ds _ ha)
  | .dict _, _, h => by cases h
theorem dpSameAll {K : PySem.W.Frag} {H H' : Hp} (e : Same H H') : ∀ (ds : List PyData) (vs : List V), DpAll K H vs ds → DpAll K H' vs ds
  | [], _, h => by cases h; exact .nil
  | d :: ds, _, h => by
    cases h with
    | cons h1 h2 => exact .cons (dpSame e d _ h1) (dpSameAll e ds _ h2)
end
/-- the objects of H' that are not in H -/
def newIn (H H' : Hp) : Hp := fun b => if (H b).isSome = true then none else H' b
theorem newIn_at {H H' : Hp} {b : Addr} {o : HO} (h : H b = none) (h' : H' b = some o) : newIn H H' b = some o := by
  unfold newIn
  rw [h]
  exact h'
theorem newIn_get {H H' : Hp} {b : Addr} {o : HO} (h : newIn H H' b = some o) : H b = none ∧ H' b = some o := by
  unfold newIn at h
  cases z : H b with
  | none =>
    rw [z] at h
    exact ⟨rfl, h⟩
  | some u =>
    rw [z] at h
    cases h
theorem newIn_in {H H' : Hp} : Same (newIn H H') H' := fun _ _ e => (newIn_get e).2
theorem newIn_on {H H' H2 : Hp} (k : ∀ b o, H b = none → H' b = some o → H2 b = some o) : Same (newIn H H') (newIn H H2) := fun b o e =>
  let ⟨h1, h2⟩ := newIn_get e
  newIn_at h1 (k b o h1 h2)
theorem newIn_back {H H1 H' : Hp} (k : ∀ b, H1 b = none → H b = none) : Same (newIn H1 H') (newIn H H') := fun b o e =>
  let ⟨h1, h2⟩ := newIn_get e
  newIn_at (k b h1) h2
theorem Kept.of {d c : Addr} {H H' : Hp} (s : Same H H') : Kept d c H H' := fun b o _ _ e => s b o e
theorem Deal.same {H H' : Hp} {d c : Addr} (x : Deal H d c) (s : Same H H') : Deal H' d c := by
  obtain ⟨ne, xs, m, h1, h2, r⟩ := x
  exact ⟨ne, xs, m, s _ _ h1, s _ _ h2, r⟩
theorem Deal.ned {H : Hp} {d c b : Addr} (x : Deal H d c) (h : H b = none) : b ≠ d := by
  obtain ⟨_, _, _, h1, _⟩ := x
  exact Ne.symm (ne_of_none h1 h)
theorem Deal.nec {H : Hp} {d c b : Addr} (x : Deal H d c) (h : H b = none) : b ≠ c := by
  obtain ⟨_, _, _, _, h1, _⟩ := x
  exact Ne.symm (ne_of_none h1 h)
/-- what was free is free in the heap before -/
theorem Kept.none {H H' : Hp} {d c b : Addr} (k : Kept d c H H') (x : Deal H' d c) (h : H' b = none) : H b = none := by
  cases z : H b with
  | none => rfl
  | some o =>
    have q := k b o (x.ned h) (x.nec h) z
    rw [h] at q
    cases q
theorem Kept.new {H0 H H' : Hp} {d c : Addr} (k : Kept d c H H') (x : Deal H0 d c) : Same (newIn H0 H) (newIn H0 H') :=
  newIn_on fun b o h h' => k b o (x.ned h) (x.nec h) h'
theorem Deal.ints {H : Hp} {d c b : Addr} (x : Deal H d c) {o : HO} (h : H b = some o) (h1 : ∀ xs : List Int, o ≠ .lst (xs.map V.int)) (h2 : ∀ m, o ≠ .lst [.ref c, .int m]) : b ≠ d ∧ b ≠ c := by
  obtain ⟨_, xs, m, e1, e2, _⟩ := x
  constructor
  · intro z
    rw [z, e1] at h
    exact h2 m (Option.some.inj h).symm
  · intro z
    rw [z, e2] at h
    exact h1 xs (Option.some.inj h).symm
/-- data that no draw touches -/
def Off (K : PySem.W.Frag) (d c : Addr) (H : Hp) (xs : List V) : Prop :=
  ∃ H0 : Hp, H0 d = none ∧ H0 c = none ∧ Same H0 H ∧ ∀ x ∈ xs, ∃ t : PyData, Dp K H0 x t ∧ PyData.canLay0 t = true ∧ t.depth ≤ 60
theorem Off.sub {K : PySem.W.Frag} {d c : Addr} {H : Hp} {xs ys : List V} (h : Off K d c H xs) (k : ∀ y ∈ ys, y ∈ xs) : Off K d c H ys := by
  obtain ⟨H0, a, b, e, f⟩ := h
  exact ⟨H0, a, b, e, fun y hy => f y (k y hy)⟩
theorem Off.kept {K : PySem.W.Frag} {d c : Addr} {H H' : Hp} {xs : List V} (h : Off K d c H xs) (k : Kept d c H H') : Off K d c H' xs := by
  obtain ⟨H0, a, b, e, f⟩ := h
  exact ⟨H0, a, b, fun z o q => k z o (fun y => by rw [y, a] at q; cases q) (fun y => by rw [y, b] at q; cases q) (e z o q), f⟩
theorem Off.strs {K : PySem.W.Frag} {d c : Addr} {H : Hp} {ss : List Str} (ok : ∀ s ∈ ss, PyData.strOk s = true) : Off K d c H (ss.map V.str) :=
  ⟨fun _ => none, rfl, rfl, fun _ _ q => (nomatch q), fun x hx => by
    obtain ⟨s, hs, rfl⟩ := List.mem_map.mp hx
    exact ⟨.str s, .str s, by simp [PyData.canLay0, ok s hs], by simp [PyData.depth]⟩⟩
theorem Off.all {K : PySem.W.Frag} {d c : Addr} {H : Hp} : ∀ {xs : List V}, Off K d c H xs → ∃ ds, DpAll K H xs ds ∧ PyData.canLayAll0 ds = true ∧ PyData.depthAll ds ≤ 60 ∧ ds.length = xs.length
  | [], _ => ⟨[], .nil, by simp [PyData.canLayAll0], by simp [PyData.depthAll], rfl⟩
  | x :: xs, h => by
    obtain ⟨ds, h1, h2, h3, h4⟩ := (h.sub (ys := xs) fun y hy => List.mem_cons_of_mem _ hy).all
    obtain ⟨H0, a, b, e, f⟩ := h
    obtain ⟨t, g1, g2, g3⟩ := f x List.mem_cons_self
    refine ⟨t :: ds, .cons (dpSame e _ _ g1) h1, by simp [PyData.canLayAll0, g2, h2], ?_, by rw [List.length_cons, List.length_cons, h4]⟩
    simp only [PyData.depthAll]
    omega
theorem Off.list {K : PySem.W.Frag} {d c a : Addr} {H : Hp} {xs : List V} (h : Off K d c H xs) (s : SqL K H a xs) : ∃ ds, Dp K H (.ref a) (.list ds) ∧ SeqAt.shaped (.list ds) = true ∧ ds.length = xs.length := by
  obtain ⟨ds, h1, h2, h3, h4⟩ := h.all
  refine ⟨ds, .lst s h1, ?_, h4⟩
  show (PyData.canLay0 (.list ds) && decide (PyData.depth (.list ds) ≤ 64)) = true
  rw [Bool.and_eq_true]
  refine ⟨by simp only [PyData.canLay0]; exact h2, decide_eq_true ?_⟩
  simp only [PyData.depth]
  omega
theorem eqvNil {ds : List PyData} : (!PyData.eqv (.list ds) (.list [])) = !ds.isEmpty := by
  cases ds <;> simp [PyData.eqv, PyData.eqvAll]
theorem permErase {α : Type} {l : List α} {k : Nat} (h : k < l.length) : (l[k] :: l.eraseIdx k).Perm l := by
  have e : l.take k ++ l[k] :: l.drop (k + 1) = l := by
    rw [← List.drop_eq_getElem_cons h, List.take_append_drop]
  rw [List.eraseIdx_eq_take_drop_succ]
  have p : (l.take k ++ l[k] :: l.drop (k + 1)).Perm (l[k] :: (l.take k ++ l.drop (k + 1))) := List.perm_middle
  rw [e] at p
  exact p.symm
/-- a name of a kind -/
def IsName (s : Str) : Bool := decide (1 ≤ s.cps.size) && decide (s.cps.size ≤ 6) && s.cps.all fun x => decide (97 ≤ x) && decide (x ≤ 122)
structure GoodNames (ss : List Str) (n : Nat) : Prop where
  len : ss.length = n
  nd : ss.Nodup
  nm : ∀ s ∈ ss, IsName s = true
  zq : ("zqzqzq" : Str) ∉ ss
  qz : ∀ s ∈ ss, s.cps.toList.take 4 ≠ [113, 122, 113, 122]
theorem Deal.upd {H : Hp} {d c D : Addr} {o : HO} (x : Deal H d c) (h1 : D ≠ d) (h2 : D ≠ c) : Deal (L2.upd H D o) d c := by
  obtain ⟨ne, us, m, w1, w2, z⟩ := x
  exact ⟨ne, us, m, by rw [upd_ne h1.symm]; exact w1, by rw [upd_ne h2.symm]; exact w2, z⟩
theorem Kept.upd {H H' : Hp} {d c D : Addr} {o : HO} (k : Kept d c H H') (h : H D = Option.none) : Kept d c H (L2.upd H' D o) := fun b u b1 b2 e => by
  rw [upd_ne (ne_of_none e h)]
  exact k b u b1 b2 e
theorem Same.upd {H H' : Hp} {D : Addr} {o : HO} (k : Same H H') (h : H D = none) : Same H (L2.upd H' D o) := fun b u e => by
  rw [upd_ne (ne_of_none e h)]
  exact k b u e
end L2.Und
end

section
set_option Elab.async false
set_option linter.all false
set_option maxRecDepth 100000
set_option maxHeartbeats 4000000
namespace L2.Und
open PySem PySem.Spec PyProof.Rows _root_.Und
abbrev topS (i : Nat) : Stmt := PySem.Challenge.pw_undoamid_k03_tables_refused.main.body.getD i (.Pass ⟨0, 0, 0, 0⟩)
abbrev sDeal : Stmt := topS 20
abbrev sDraw : Stmt := topS 21
abbrev nDeal : List Str := ["_law_script", "_law_base", "_law_cell", "_law_cells", "_law_mixed_here"]
abbrev nDraw : List Str := ["_law_deal_here", "_law_many", "_law_left", "_law_digit"]
theorem scDeal : FnScope nDeal ["_law_script", "_law_base"] (defScope sDeal) := ⟨rfl, rfl, rfl, by decide +kernel, rfl, by decide +kernel, by decide +kernel⟩
theorem scDraw : FnScope nDraw ["_law_deal_here", "_law_many"] (defScope sDraw) := ⟨rfl, rfl, rfl, by decide +kernel, rfl, by decide +kernel, by decide +kernel⟩
section
variable {P : Program} {w : World} {K : PySem.W.Frag} {mg : Str → Option Value} {base : Heap}
theorem okDraw {f : Addr} {fd : FuncData} (F : Fun K "_law_draw" "_law_draw" sDraw f fd) (ml : mg "len" = none) : FnOk P w K mg base CX0 1 f fd ["_law_deal_here", "_law_many"] spDraw := by
  refine F.ok scDraw (fun vs H Q E h => ?_) (fun cdv A outer s H vs Q E hr h => ?_)
  · obtain ⟨d, c, n, rfl, _⟩ := h
    rfl
  have hu : (A.deeper (envOfC "_law_draw" (defScope sDraw) s.heap.objs.size f cdv)).units + 64 < cLine := by have := hr.un; omega
  refine ⟨_, pss_cons (ps_if (pt_cmpR (op_neD hu) (pe_ix ix_list (pv 0) pe_int (fun _ _ => rfl)) (pe_lst pa_nil) (nomark _))
      (pss_cons (ps_set (i := 2) scDraw.nd rfl (Or.inl rfl) (pe_ix ix_list (pe_ix ix_list (pv 0) pe_int (fun _ _ => rfl)) (pe_op op_sub (pe_callB call_len_seq rfl ml PySem.boot_len (pa_cons (pe_ix ix_list (pv 0) pe_int (fun _ _ => rfl)) pa_nil)) pe_int) (fun _ _ => rfl)))
      (pss_cons (ps_set (i := 3) scDraw.nd rfl (Or.inl rfl) (pe_op op_mod (pv 2) (pv 1)))
      (pss_cons (ps_if (pt_cmpR op_gt (pe_op op_fdivW (pv 2) (pv 1)) pe_int (nomark _))
          (pss_one (ps_asg (pe_op op_fdivW (pv 2) (pv 1)) (pg_sub (pe_ix ix_list (pv 0) pe_int (fun _ _ => rfl)) (pe_op op_sub (pe_callB call_len_seq rfl ml PySem.boot_len (pa_cons (pe_ix ix_list (pv 0) pe_int (fun _ _ => rfl)) pa_nil)) pe_int) set_list)))
          (pss_one (ps_expr (pe_bm0 PySem.F.plainAttrs_list PySem.F.slot_list_pop PySem.F.type_list_pop mt_pop (pe_ix ix_list (pv 0) pe_int (fun _ _ => rfl))))))
      (pss_one (ps_ret (pv 3)))))) pss_nil)
    (pss_cons (ps_asg (pe_op op_mod (pe_op op_add (pe_op op_mul (pe_ix ix_list (pv 0) pe_int (fun _ _ => rfl)) pe_int) pe_int) pe_int) (pg_sub (pv 0) pe_int set_list))
    (pss_one (ps_ret (pe_op op_mod (pe_op op_fdiv (pe_ix ix_list (pv 0) pe_int (fun _ _ => rfl)) pe_int) (pv 1))))), ?_⟩
  obtain ⟨d, c, n, rfl, ⟨hdc, xs, m, hd, hc, pos, len, m0⟩, n0, nb, q⟩ := h
  have at0 : atI [V.ref c, .int m] 0 = some (.ref c) := rfl
  have at1 : atI [V.ref c, .int m] 1 = some (.int m) := rfl
  refine ⟨_, rfl, d, _, 0, _, rfl, rfl, SqL.of hd, at0, (by show 0 ≤ sizeLine; decide), fun p hp => ?_⟩
  have dp : d ≠ p := ne_of_none hd hp
  have cp : c ≠ p := ne_of_none hc hp
  have same : Same H (upd H p (.lst [])) := fun b o e => by rw [upd_ne (ne_of_none e hp)]; exact e
  have hd1 := same _ _ hd
  have hc1 := same _ _ hc
  have hp1 : upd H p (HO.lst []) p = some (HO.lst []) := upd_same
  have wd : CDivW (xs.getLast?.getD 0) n := wide_div n0 nb (by decide) (by decide)
  generalize upd H p (.lst []) = H1 at same hd1 hc1 hp1
  refine ⟨.list (xs.map PyData.int), .list [], dpInts (SqL.of hc1), .lst (SqL.of hp1) .nil, shapedInts xs, by decide +kernel, _, rfl, ?_⟩
  refine ite2 (fun t => ?_) (fun t => ?_)
  · have ne : xs ≠ [] := by
      intro z
      subst z
      revert t
      decide +kernel
    obtain ⟨y, hy⟩ : ∃ y, xs[xs.length - 1]? = some y := by
      have hp : 0 < xs.length := List.length_pos_iff.mpr ne
      exact ⟨xs[xs.length - 1], List.getElem?_eq_getElem (by omega)⟩
    have ym : y ∈ xs := List.mem_of_getElem? hy
    have y0 := pos y ym
    have hy1 : (xs.map V.int)[(xs.map V.int).length - 1]? = some (V.int y) := by rw [List.length_map, List.getElem?_map, hy]; rfl
    have ne1 : xs.map V.int ≠ [] := by simpa using ne
    have at2 := atI_last hy1 ne1
    have wy : CDivW y n := wide_div n0 nb (by decide) (by decide)
    have r0 : 0 ≤ y % n := Int.emod_nonneg _ (by omega)
    have rn : y % n < n := Int.emod_lt_of_pos _ n0
    refine ⟨_, rfl, d, _, 0, _, rfl, rfl, SqL.of hd1, at0, _, rfl, d, _, 0, _, rfl, rfl, SqL.of hd1, at0, c, _, rfl, .inl (SqL.of hc1), _, _, rfl, rfl, c, _, _, _, rfl, rfl, SqL.of hc1, at2, ?_⟩
    refine ⟨_, rfl, _, rfl, _, _, rfl, rfl, n0, ?_⟩
    refine ⟨_, rfl, _, rfl, _, _, rfl, rfl, wy, _, _, rfl, rfl, _, rfl, ?_⟩
    refine ite2 (fun g => ?_) (fun g => ?_)
    · have g0 : 0 < y / n := of_decide_eq_true g
      have hl := List.length_pos_iff.mpr ne1
      have ix : ixN (xs.map V.int).length (((xs.map V.int).length : Int) - 1) = some ((xs.map V.int).length - 1) := by
        unfold ixN
        rw [if_pos (by omega), if_pos (by omega)]
        exact congrArg some (by omega)
      refine ⟨_, rfl, _, rfl, _, _, rfl, rfl, wy, _, rfl, d, _, 0, _, rfl, rfl, SqL.of hd1, at0, _, rfl, d, _, 0, _, rfl, rfl, SqL.of hd1, at0, c, _, rfl, .inl (SqL.of hc1), _, _, rfl, rfl, c, _, _, _, rfl, rfl, hc1, ix, _, rfl, ?_⟩
      refine q _ _ r0 rn ⟨hdc, xs.set ((xs.map V.int).length - 1) (y / n), m, ?_, ?_, ?_, ?_, m0⟩ (fun b o b1 b2 e => ?_)
      · rw [upd_ne hdc]
        exact hd1
      · rw [upd_same, List.map_set]
      · intro x hx
        rcases List.mem_or_eq_of_mem_set hx with z | z
        · exact pos x z
        · rw [z]
          exact g0
      · rw [List.length_set]
        exact len
      · rw [upd_ne b2]
        exact same b o e
    · refine ⟨_, rfl, d, _, 0, _, rfl, rfl, SqL.of hd1, at0, .inl ⟨rfl, _, SqL.of hc1⟩, c, _, _, rfl, rfl, hc1, hy1, _, rfl, ?_⟩
      refine q _ _ r0 rn ⟨hdc, xs.dropLast, m, ?_, ?_, ?_, ?_, m0⟩ (fun b o b1 b2 e => ?_)
      · rw [upd_ne hdc]
        exact hd1
      · rw [upd_same, List.map_dropLast]
      · intro x hx
        exact pos x (List.dropLast_subset _ hx)
      · rw [List.length_dropLast]
        omega
      · rw [upd_ne b2]
        exact same b o e
  · refine ⟨_, rfl, d, _, 1, _, rfl, rfl, SqL.of hd1, at1, _, _, rfl, rfl, .inr (by decide), _, _, rfl, rfl, _, _, rfl, rfl, (by show (0 : Int) < 2147483647; decide), _, rfl, d, _, 1, 1, rfl, rfl, hd1, rfl, ?_⟩
    have z0 : (0 : Int) ≤ (m * 48271 + 11) % 2147483647 := Int.emod_nonneg _ (by decide)
    have e1 : [V.ref c, .int m].set 1 (.int ((m * 48271 + 11) % 2147483647)) = [V.ref c, .int ((m * 48271 + 11) % 2147483647)] := rfl
    rw [e1]
    generalize (m * 48271 + 11) % 2147483647 = m1 at z0
    have at3 : atI [V.ref c, .int m1] 1 = some (.int m1) := rfl
    refine ⟨_, rfl, d, _, 1, _, rfl, rfl, SqL.of upd_same, at3, _, _, rfl, rfl, ⟨by decide, by decide⟩, _, rfl, _, _, rfl, rfl, n0, ?_⟩
    refine q _ _ (Int.emod_nonneg _ (by omega)) (Int.emod_lt_of_pos _ n0) ⟨hdc, xs, m1, upd_same, ?_, pos, len, z0⟩ (fun b o b1 b2 e => ?_)
    · rw [upd_ne (Ne.symm hdc)]
      exact hc1
    · rw [upd_ne b1]
      exact same b o e
end
end L2.Und
end

section
set_option Elab.async false
set_option linter.all false
set_option maxRecDepth 100000
set_option maxHeartbeats 4000000
namespace L2.Und
open PySem PySem.Spec PyProof.Rows _root_.Und
section
variable {P : Program} {w : World} {K : PySem.W.Frag} {mg : Str → Option Value} {base : Heap}
theorem okDeal {f : Addr} {fd : FuncData} (F : Fun K "_law_deal" "_law_deal" sDeal f fd) (mm : mg "max" = none) : FnOk P w K mg base CX0 1 f fd ["_law_script", "_law_base"] (spDeal K) := by
  refine F.ok scDeal (fun vs H Q E h => ?_) (fun cdv A outer s H vs Q E hr h => ?_)
  · obtain ⟨a, ns, b, rfl, _⟩ := h
    rfl
  refine ⟨_, pss_cons (ps_setLc (i := 3) (own := [("_law_cell", 2)]) (g := gName 2) (tt := tYes) rfl scDeal.nd rfl rfl (sw_true rfl rfl rfl (by decide +kernel))
        (pi_list (pe_slice sl_list (pv 0) (po_some (pv 1)) (po_some pe_int))) (blkOk_by (N := nDeal) (sc := defScope sDeal) (by decide +kernel))
        (fun _ _ _ _ _ => pg_name (i := 2) scDeal.nd rfl (Or.inl rfl)) (fun _ _ _ _ _ => pts_nil)
        (fun _ _ _ _ _ => pe_callB (call_max2 rfl) rfl mm PyProof.Rows.Boot.«max» (pa_cons (pv 2) (pa_cons (pe_op op_sub pe_int (pv 2)) pa_nil))))
    (pss_cons (ps_set (i := 4) scDeal.nd rfl (Or.inl rfl) (pe_op op_add pe_int (pe_op op_mul pe_int (pv 1))))
    (pss_cons (ps_for PassesOwn.never rfl (pi_list (pv 3)) (pg_name (i := 2) scDeal.nd rfl (Or.inl rfl))
        (pss_one (ps_set (i := 4) scDeal.nd rfl (Or.inl rfl) (pe_op op_mod (pe_op op_add (pe_op op_mul (pv 4) pe_int) (pe_op op_mod (pv 2) pe_int)) pe_int))))
    (pss_one (ps_ret (pe_lst (pa_cons (pe_revL (pe_lc (own := [("_law_cell", 2)]) (g := gName 2) rfl scDeal.nd (pi_list (pv 3)) (blkOk_by (N := nDeal) (sc := defScope sDeal) (by decide +kernel))
        (fun _ _ _ _ _ => pg_name (i := 2) scDeal.nd rfl (Or.inl rfl)) (fun _ _ _ _ _ => pts_one (pt_cmpR op_ge (pv 2) (pe_op op_pow pe_int pe_int) (nomark _)))
        (fun _ _ _ _ _ => pv 2))) (pa_cons (pv 4) pa_nil))))))), ?_⟩
  obtain ⟨a, ns, b, rfl, hS, h63, b0, b1, q⟩ := h
  obtain ⟨zs, hz, hzl⟩ := cut_ints ns (some b) (some 63)
  refine ⟨_, rfl, _, rfl, _, rfl, _, rfl, a, _, rfl, hS, fun p hp => ?_⟩
  rw [hz]
  have s0 : Same H (upd H p (.lst (zs.map V.int))) := sameNew hp
  refine ⟨p, rfl, ⟨_, SqL.of upd_same⟩, fun D hD => ?_⟩
  have hp1 : upd H p (HO.lst (zs.map V.int)) p = some (.lst (zs.map V.int)) := upd_same
  generalize upd H p (.lst (zs.map V.int)) = H1 at s0 hD hp1
  refine lc_list (K := K) (a := p) (xs := zs.map V.int) (fun i H' => Same H1 H' ∧ H' D = some (.lst ((zs.take i).map fun x => V.int (absI x)))) ⟨sameNew hD, upd_same⟩
    (fun i H' _ h => SqL.of (h.1 _ _ hp1)) ?_ ?_
  · rintro i x H' hx ⟨g1, g2⟩
    obtain ⟨z, hz, rfl⟩ : ∃ z, zs[i]? = some z ∧ x = V.int z := by
      rw [List.getElem?_map] at hx
      cases e : zs[i]? with
      | none => rw [e] at hx; cases hx
      | some z => rw [e] at hx; exact ⟨z, rfl, (Option.some.inj hx).symm⟩
    refine ⟨rfl, _, rfl, _, rfl, _, _, rfl, rfl, _, _, rfl, _, g2, ?_, ?_, ?_⟩
    · rw [List.length_map]
      exact Nat.lt_of_le_of_lt (Nat.le_trans (List.length_take_le' _ _) (Nat.le_trans hzl h63)) (by decide)
    · intro b' o e
      rw [upd_ne (ne_of_none e hD)]
      exact g1 b' o e
    · rw [upd_same, List.take_succ, hz, List.map_append]
      rfl
  · rintro H2 ⟨g1, g2⟩
    rw [List.length_map, List.take_length] at g2
    have g2 : H2 D = some (.lst ((zs.map absI).map V.int)) := by rw [g2, List.map_map]; rfl
    have s2 : Same H H2 := s0.trans g1
    have nn : ∀ x ∈ zs.map absI, 0 ≤ x := by
      intro x hx
      obtain ⟨z, _, rfl⟩ := List.mem_map.mp hx
      exact absI_nn z
    have nl : (zs.map absI).length ≤ 63 := by rw [List.length_map]; exact Nat.le_trans hzl h63
    generalize zs.map absI = ys at g2 nn nl
    refine ⟨_, rfl, _, _, rfl, rfl, .inl ⟨by decide, by decide⟩, _, _, rfl, rfl, ?_⟩
    refine ⟨_, rfl, D, rfl, ⟨_, SqL.of g2⟩, for_list (K := K) (a := D) (xs := ys.map V.int)
      (fun _ σ H' => H' = H2 ∧ ∃ (v : Option V) (m : Int), σ = [some (.ref a), some (.int b), v, some (.ref D), some (.int m)] ∧ 0 ≤ m) ⟨rfl, none, _, rfl, by omega⟩
      (fun i σ H' _ h => by rw [h.1]; exact SqL.of g2) ?_ ?_⟩
    · rintro i x σ H' hx ⟨rfl, v, m, rfl, m0⟩
      obtain ⟨z, rfl⟩ : ∃ z, x = V.int z := by
        rw [List.getElem?_map] at hx
        cases e : ys[i]? with
        | none => rw [e] at hx; cases hx
        | some z => rw [e] at hx; exact ⟨z, (Option.some.inj hx).symm⟩
      refine ⟨_, rfl, _, _, rfl, rfl, .inr ⟨by decide, by decide⟩, _, rfl, _, _, rfl, rfl, (by show (0 : Int) < 2147483629; decide), _, _, rfl, rfl, _, _, rfl, rfl, (by show (0 : Int) < 2147483647; decide), ?_⟩
      exact ⟨rfl, _, _, rfl, Int.emod_nonneg _ (by decide)⟩
    · rintro σ H' ⟨rfl, v, m, rfl, m0⟩
      refine ⟨_, rfl, D, rfl, ⟨_, SqL.of g2⟩, fun D2 hD2 => ?_⟩
      refine lc_list (K := K) (a := D) (xs := ys.map V.int) (fun i H3 => Same H' H3 ∧ ∃ us : List Int, H3 D2 = some (.lst (us.map V.int)) ∧ us.length ≤ i ∧ ∀ x ∈ us, 0 < x) ⟨sameNew hD2, [], upd_same, Nat.le_refl _, fun x hx => nomatch hx⟩
        (fun i H3 _ h => SqL.of (h.1 _ _ g2)) ?_ ?_
      · rintro i x H3 hx ⟨k1, us, k2, k3, k4⟩
        obtain ⟨z, hz, rfl⟩ : ∃ z, ys[i]? = some z ∧ x = V.int z := by
          rw [List.getElem?_map] at hx
          cases e : ys[i]? with
          | none => rw [e] at hx; cases hx
          | some z => rw [e] at hx; exact ⟨z, rfl, (Option.some.inj hx).symm⟩
        refine ⟨rfl, _, rfl, _, _, rfl, rfl, ⟨by decide, by decide, by decide⟩, _, _, rfl, rfl, _, rfl, ?_⟩
        refine ite2 (fun t => ?_) (fun t => ?_)
        · have t0 : (10 : Int) ^ (18 : Int).toNat ≤ z := of_decide_eq_true t
          refine ⟨_, rfl, _, k2, ?_, ?_, us ++ [z], ?_, ?_, ?_⟩
          · have := (List.getElem?_eq_some_iff.mp hz).1
            rw [List.length_map]
            exact Nat.lt_of_le_of_lt (Nat.le_trans k3 (by omega : i ≤ 63)) (by decide)
          · intro b' o e
            rw [upd_ne (ne_of_none e hD2)]
            exact k1 b' o e
          · rw [upd_same, List.map_append]
            rfl
          · rw [List.length_append, List.length_singleton]
            omega
          · intro x hx
            rcases List.mem_append.mp hx with hx | hx
            · exact k4 x hx
            · rw [List.mem_singleton.mp hx]
              exact Int.lt_of_lt_of_le (by decide) t0
        · exact ⟨k1, us, k2, by omega, k4⟩
      · rintro H3 ⟨k1, us, k2, k3, k4⟩
        rw [List.length_map] at k3
        refine ⟨D2, _, rfl, SqL.of k2, fun c hc => ⟨_, rfl, (by show 2 ≤ sizeLine; decide), fun d hd => ?_⟩⟩
        have dc : d ≠ c := fun z => by
          rw [z, upd_same] at hd
          cases hd
        have hd3 : H3 d = none := by rw [upd_ne dc] at hd; exact hd
        have sF : Same H (upd (upd H3 c (.lst (us.map V.int).reverse)) d (.lst [.ref c, .int m])) := s2.trans (k1.trans ((sameNew hc).trans (sameNew hd)))
        refine q d c _ sF ((s2.trans k1).free hd3) ((s2.trans k1).free hc) ⟨dc, us.reverse, m, upd_same, ?_, ?_, ?_, m0⟩
        · rw [upd_ne (Ne.symm dc), upd_same, List.map_reverse]
        · intro x hx
          exact k4 x (List.mem_reverse.mp hx)
        · rw [List.length_reverse]
          omega
end
end L2.Und
end

section
set_option Elab.async false
set_option linter.all false
set_option maxRecDepth 100000
set_option maxHeartbeats 4000000
namespace L2.Und
open PySem PySem.Spec PyProof.Rows _root_.Und
abbrev sMixed : Stmt := topS 22
abbrev nMixed : List Str := ["_law_deal_here", "_law_items", "_law_left", "_law_found"]
theorem scMixed : FnScope nMixed ["_law_deal_here", "_law_items"] (defScope sMixed) := ⟨rfl, rfl, rfl, by decide +kernel, rfl, by decide +kernel, by decide +kernel⟩
/-- the items in some order -/
def spMixed (K : PySem.W.Frag) : Sp := fun vs H Q _ => ∃ (d c a : Addr) (xs : List V), vs = [.ref d, .ref a] ∧ Deal H d c ∧ (SqL K H a xs ∨ SqT K H a xs) ∧ Off K d c H xs ∧ xs.length ≤ 1000 ∧
  ∀ (r : Addr) (ys : List V) (H' : Hp), H r = none → Deal H' d c → Kept d c H H' → H' r = some (.lst ys) → ys.Perm xs → Q (.ref r) H'
section
variable {P : Program} {w : World} {K : PySem.W.Frag} {mg : Str → Option Value} {base : Heap}
theorem okMixed {f fD : Addr} {fd fdD : FuncData} (F : Fun K "_law_mixed" "_law_mixed" sMixed f fd)
    (GD : FnOk P w K mg base CX0 1 fD fdD ["_law_deal_here", "_law_many"] spDraw) (mD : mg "_law_draw" = some (.ref fD)) (kD : PySem.W.keepIn K (.ref fD) = true) (bD : Binds K fdD ["_law_deal_here", "_law_many"] [])
    (mN : mg "len" = none) (mL : mg "list" = none) : FnOk P w K mg base CX0 2 f fd ["_law_deal_here", "_law_items"] (spMixed K) := by
  refine F.ok scMixed (fun vs H Q E h => ?_) (fun cdv A outer s H vs Q E hr h => ?_)
  · obtain ⟨d, c, a, xs, rfl, _⟩ := h
    rfl
  have hu : (A.deeper (envOfC "_law_mixed" (defScope sMixed) s.heap.objs.size f cdv)).units + 64 < cLine := by have := hr.un; omega
  refine ⟨_, pss_cons (ps_par (i := 2) (j := 3) rfl scMixed.nd rfl rfl (by decide) rfl rfl (pa_cons (pe_callTy call_list_of rfl mL PyProof.Rows.Boot.«list» (pa_cons (pv 1) pa_nil)) (pa_cons (pe_lst pa_nil) pa_nil)) rfl)
    (pss_cons (ps_while PassesOwn.never (pt_cmpR (op_neD hu) (pv 2) (pe_lst pa_nil) (nomark _))
      (pss_one (ps_expr (pe_bm PySem.F.plainAttrs_list PySem.F.slot_list_append PySem.F.type_list_append mt_append (pv 3)
        (pa_cons (pe_bm PySem.F.plainAttrs_list PySem.F.slot_list_pop PySem.F.type_list_pop mt_popAt (pv 2)
          (pa_cons (pe_call GD hr rfl mD kD bD .nil pass0 (pa_cons (pv 0) (pa_cons (pe_callB call_len_seq rfl mN PySem.boot_len (pa_cons (pv 2) pa_nil)) pa_nil))) pa_nil)) pa_nil)))))
    (pss_one (ps_ret (pv 3)))), ?_⟩
  obtain ⟨d, c, a, xs, rfl, hD, hS, hO, hl, q⟩ := h
  refine ⟨_, rfl, a, xs, rfl, hS, fun l hl1 => ?_⟩
  have s1 := sameNew (o := .lst xs) hl1
  have e1 : upd H l (HO.lst xs) l = some (.lst xs) := upd_same
  generalize upd H l (.lst xs) = H1 at s1 e1
  refine ⟨(by show 0 ≤ sizeLine; decide), fun r hr1 => ?_⟩
  have s2 := sameNew (o := .lst []) hr1
  have e2 : upd H1 r (HO.lst []) r = some (.lst []) := upd_same
  have lr : l ≠ r := ne_of_none e1 hr1
  have e1' := s2 _ _ e1
  generalize upd H1 r (.lst []) = H2 at s2 e2 e1'
  have s12 := s1.trans s2
  have hr0 : H r = none := s1.free hr1
  have ld := hD.ned hl1
  have lc := hD.nec hl1
  have rd := (hD.same s1).ned hr1
  have rc := (hD.same s1).nec hr1
  refine ⟨_, _, rfl, while_by (fun σ H' => ∃ ls ys : List V, σ = [some (.ref d), some (.ref a), some (.ref l), some (.ref r)] ∧ H' l = some (.lst ls) ∧ H' r = some (.lst ys) ∧ (ys ++ ls).Perm xs ∧ Deal H' d c ∧ Kept d c H H')
    (fun _ H' => match H' l with | some (.lst ls) => ls.length | _ => 0) ⟨xs, [], rfl, e1', e2, by simp, hD.same s12, .of s12⟩ ?_ ?_⟩
  · rintro σ H3 ⟨ls, ys, rfl, g1, g2, g3, g4, g5⟩
    refine ⟨_, rfl, (by show 0 ≤ sizeLine; decide), fun p hp => ?_⟩
    have s3 := sameNew (o := .lst []) hp
    have hp1 : upd H3 p (HO.lst []) p = some (.lst []) := upd_same
    have g1' := s3 _ _ g1
    have g2' := s3 _ _ g2
    have g4' := g4.same s3
    have g5' := g5.trans (.of s3)
    generalize upd H3 p (.lst []) = H4 at s3 hp1 g1' g2' g4' g5'
    have O4 : Off K d c H4 ls := (hO.kept g5').sub fun y hy => g3.mem_iff.mp (List.mem_append_right _ hy)
    obtain ⟨ds, q1, q2, q3⟩ := O4.list (SqL.of g1')
    refine ⟨.list ds, .list [], q1, .lst (SqL.of hp1) .nil, q2, by decide +kernel, _, rfl, ?_⟩
    have ll : (ys ++ ls).length = xs.length := g3.length_eq
    rw [List.length_append] at ll
    have emp : (!PyData.eqv (.list ds) (.list [])) = !ls.isEmpty := by
      rw [eqvNil]
      cases ds <;> cases ls <;> first | rfl | cases q3
    show if (!PyData.eqv (.list ds) (.list [])) = true then _ else _
    rw [emp]
    cases ls with
    | nil =>
      refine iteF ?_
      refine ⟨_, rfl, ?_⟩
      rw [List.append_nil] at g3
      exact q r ys H4 hr0 g4' g5' g2' g3
    | cons y0 ls0 =>
      refine iteT ?_
      refine ⟨_, rfl, .inl ⟨rfl, _, SqL.of g2'⟩, _, rfl, .inl ⟨rfl, _, SqL.of g1'⟩, _, rfl, _, rfl, l, _, rfl, .inl (SqL.of g1'), d, c, _, rfl, g4', ?_, ?_, fun z H5 z0 z1 hD5 k5 => ?_⟩
      · show (0 : Int) < (((y0 :: ls0).length : Nat) : Int)
        rw [List.length_cons]
        omega
      · show (((y0 :: ls0).length : Nat) : Int).natAbs < 2 ^ 200
        have : (y0 :: ls0).length < 2 ^ 200 := Nat.lt_of_le_of_lt (by omega : (y0 :: ls0).length ≤ 1000) (by decide)
        omega
      · obtain ⟨k, rfl⟩ : ∃ k : Nat, z = (k : Int) := ⟨z.toNat, by omega⟩
        have kl : k < (y0 :: ls0).length := by
          have z2 : (k : Int) < (((y0 :: ls0).length : Nat) : Int) := z1
          omega
        have hk := List.getElem?_eq_getElem kl
        have l5 : H5 l = some (.lst (y0 :: ls0)) := k5 _ _ ld lc g1'
        have r5 : H5 r = some (.lst ys) := k5 _ _ rd rc g2'
        have ix : seqIndex? (k : Int) (y0 :: ls0).length = some k := seqIndex_of (Int.natCast_nonneg k) (Int.ofNat_lt.mpr kl)
        refine ⟨l, y0 :: ls0, (k : Int), k, _, rfl, rfl, l5, by omega, ?_, ix, hk, r, ys, _, rfl, rfl, ?_, ?_, ?_⟩
        · have : (2 : Int) ^ 63 = 9223372036854775808 := by decide
          omega
        · rw [upd_ne lr.symm]
          exact r5
        · exact small1000 (by omega)
        have el : ((y0 :: ls0).eraseIdx k).length + 1 = (y0 :: ls0).length := by
          rw [List.length_eraseIdx_of_lt kl]
          omega
        refine ⟨⟨(y0 :: ls0).eraseIdx k, ys ++ [(y0 :: ls0)[k]], rfl, ?_, upd_same, ?_, ?_, ?_⟩, ?_⟩
        · rw [upd_ne lr]
          exact upd_same
        · have pm : ((y0 :: ls0)[k] :: (y0 :: ls0).eraseIdx k).Perm (y0 :: ls0) := permErase kl
          rw [List.append_assoc]
          exact (List.Perm.append_left ys pm).trans g3
        · obtain ⟨ne, us, m', w1, w2, z⟩ := hD5
          exact ⟨ne, us, m', by rw [upd_ne rd.symm, upd_ne ld.symm]; exact w1, by rw [upd_ne rc.symm, upd_ne lc.symm]; exact w2, z⟩
        · intro b o b1 b2 e
          rw [upd_ne (ne_of_none e hr0), upd_ne (ne_of_none e hl1)]
          exact k5 b o b1 b2 (g5' b o b1 b2 e)
        · show (match upd (upd H5 l _) r _ l with | some (.lst ls) => ls.length | _ => 0) < (match H3 l with | some (.lst ls) => ls.length | _ => 0)
          rw [g1, upd_ne lr, upd_same]
          show ((y0 :: ls0).eraseIdx k).length < (y0 :: ls0).length
          omega
  · intro σ H' Q Q' k z
    obtain ⟨v, e, sz, z⟩ := z
    refine ⟨v, e, sz, fun p hp => ?_⟩
    obtain ⟨a1, a2, h1, h2, h3, h4, b, hb, z'⟩ := z p hp
    exact ⟨a1, a2, h1, h2, h3, h4, b, hb, k _ _ z'⟩
end
end L2.Und
end

section
set_option Elab.async false
set_option linter.all false
set_option maxRecDepth 100000
set_option maxHeartbeats 4000000
namespace L2.Und
open PySem PySem.Spec PyProof.Rows _root_.Und
/-! ### the names of kinds that the laws draw -/
def sg (x : Nat) : Str := ⟨#[x]⟩
abbrev abcS : Str := "abcdefghijklmnopqrstuvwxyz"
abbrev oddS : Str := "kqzjxv"
abbrev words12 : List Str := ["free", "kinds", "main", "do", "out", "move", "row", "form", "root", "count", "join", "undo"]
def goodB (ss : List Str) (n : Nat) : Bool := decide (ss.length = n) && decide ss.Nodup && ss.all IsName && decide (("zqzqzq" : Str) ∉ ss) && ss.all fun s => decide (s.cps.toList.take 4 ≠ [113, 122, 113, 122])
theorem goodB_is {ss : List Str} {n : Nat} (h : goodB ss n = true) : GoodNames ss n := by
  unfold goodB at h
  rw [Bool.and_eq_true, Bool.and_eq_true, Bool.and_eq_true, Bool.and_eq_true, decide_eq_true_eq, decide_eq_true_eq, decide_eq_true_eq] at h
  exact ⟨h.1.1.1.1, h.1.1.1.2, fun s hs => List.all_eq_true.mp h.1.1.2 s hs, h.1.2, fun s hs => of_decide_eq_true (List.all_eq_true.mp h.2 s hs)⟩
theorem GoodNames.take {ss : List Str} {m n : Nat} (g : GoodNames ss m) (h : n ≤ m) : GoodNames (ss.take n) n :=
  ⟨by rw [List.length_take, g.len]; omega, g.nd.sublist (List.take_sublist n ss), fun s hs => g.nm s (List.mem_of_mem_take hs), fun m => g.zq (List.mem_of_mem_take m), fun s hs => g.qz s (List.mem_of_mem_take hs)⟩
theorem GoodNames.perm {ss zs : List Str} {n : Nat} (g : GoodNames ss n) (h : zs.Perm ss) : GoodNames zs n :=
  ⟨h.length_eq.trans g.len, h.nodup_iff.mpr g.nd, fun s hs => g.nm s (h.mem_iff.mp hs), fun m => g.zq (h.mem_iff.mp m), fun s hs => g.qz s (h.mem_iff.mp hs)⟩
theorem abc_at {i : Nat} (h : i < 26) : atI abcS.cps.toList ((i : Nat) : Int) = some (97 + i) := by
  have e : abcS.cps.toList = (List.range 26).map (97 + ·) := by decide +kernel
  rw [e]
  refine atI_nat ?_
  rw [List.getElem?_map, List.getElem?_range h]
  rfl
def base1 (t n : Nat) : List Str := (List.range n).map fun k => sg (97 + (t + 7 * k) % 26)
def base2 (t n : Nat) : List Str := (List.range n).map fun k => sg (97 + (t + 7 * (k / 6)) % 26) ++ cutS oddS none (some ((k % 6 : Nat) : Int))
theorem base1_take {t n : Nat} (h : n ≤ 12) : base1 t n = (base1 t 12).take n := by
  unfold base1
  rw [← List.map_take, List.take_range, Nat.min_eq_left h]
theorem base2_take {t n : Nat} (h : n ≤ 12) : base2 t n = (base2 t 12).take n := by
  unfold base2
  rw [← List.map_take, List.take_range, Nat.min_eq_left h]
theorem all1 : ((List.range 26).all fun t => goodB (base1 t 12) 12) = true := by decide +kernel
theorem all2 : ((List.range 26).all fun t => goodB (base2 t 12) 12) = true := by decide +kernel
theorem all3 : ((List.range 12).all fun a => (List.range 13).all fun n => goodB (((words12 ++ words12).drop a).take n) n) = true := by decide +kernel
theorem good1 {t n : Nat} (h : t < 26) (hn : n ≤ 12) : GoodNames (base1 t n) n := by
  rw [base1_take hn]
  exact (goodB_is (List.all_eq_true.mp all1 t (List.mem_range.mpr h))).take hn
theorem good2 {t n : Nat} (h : t < 26) (hn : n ≤ 12) : GoodNames (base2 t n) n := by
  rw [base2_take hn]
  exact (goodB_is (List.all_eq_true.mp all2 t (List.mem_range.mpr h))).take hn
theorem good3 {a n : Nat} (h : a < 12) (hn : n ≤ 12) : GoodNames (((words12 ++ words12).drop a).take n) n :=
  goodB_is (List.all_eq_true.mp (List.all_eq_true.mp all3 a (List.mem_range.mpr h)) n (List.mem_range.mpr (by omega)))
theorem base1_len (t n : Nat) : (base1 t n).length = n := by
  unfold base1
  rw [List.length_map, List.length_range]
theorem base2_len (t n : Nat) : (base2 t n).length = n := by
  unfold base2
  rw [List.length_map, List.length_range]
theorem base1_succ (t n : Nat) : base1 t (n + 1) = base1 t n ++ [sg (97 + (t + 7 * n) % 26)] := by
  unfold base1
  rw [List.range_succ, List.map_append]
  rfl
theorem base2_succ (t n : Nat) : base2 t (n + 1) = base2 t n ++ [sg (97 + (t + 7 * (n / 6)) % 26) ++ cutS oddS none (some ((n % 6 : Nat) : Int))] := by
  unfold base2
  rw [List.range_succ, List.map_append]
  rfl
theorem base1_size {t n : Nat} : ∀ s ∈ base1 t n, s.cps.size = 1 := by
  intro s hs
  obtain ⟨k, _, rfl⟩ := List.mem_map.mp hs
  rfl
/-! a stem round a letter -/
theorem strAll {p : Nat → Bool} {s t : Str} : (s ++ t).cps.all p = (s.cps.all p && t.cps.all p) := by
  show (s.cps ++ t.cps).all p = _
  rw [Array.all_append]
theorem strSize (s t : Str) : (s ++ t).cps.size = s.cps.size + t.cps.size := by
  show (s.cps ++ t.cps).size = _
  rw [Array.size_append]
theorem wrap_inj {p q s t : Str} (h : (p ++ s) ++ q = (p ++ t) ++ q) : s = t := by
  have h : p.cps ++ s.cps ++ q.cps = p.cps ++ t.cps ++ q.cps := congrArg Str.cps h
  have h := congrArg Array.toList h
  simp only [Array.toList_append] at h
  have h1 := List.append_cancel_right h
  have h2 := List.append_cancel_left h1
  cases s; cases t
  exact congrArg Str.mk (Array.toList_inj.mp h2)
def letters (s : Str) : Bool := s.cps.all fun x => decide (97 ≤ x) && decide (x ≤ 122)
theorem name_letters {s : Str} (h : IsName s = true) : letters s = true := by
  unfold IsName at h
  rw [Bool.and_eq_true] at h
  exact h.2
theorem name_of {s : Str} (h1 : 1 ≤ s.cps.size) (h2 : s.cps.size ≤ 6) (h : letters s = true) : IsName s = true := by
  unfold IsName
  rw [Bool.and_eq_true, Bool.and_eq_true, decide_eq_true_eq, decide_eq_true_eq]
  exact ⟨⟨h1, h2⟩, h⟩
theorem nodup_map_inj {α β : Type} {f : α → β} (hf : ∀ a b, f a = f b → a = b) : ∀ {l : List α}, l.Nodup → (l.map f).Nodup
  | [], _ => List.nodup_nil
  | a :: l, h => by
    rw [List.nodup_cons] at h
    rw [List.map_cons, List.nodup_cons]
    refine ⟨fun m => ?_, nodup_map_inj hf h.2⟩
    obtain ⟨b, hb, e⟩ := List.mem_map.mp m
    exact h.1 (hf _ _ e ▸ hb)
/-- letters from the front of the alphabet -/
def lowB (s : Str) : Bool := s.cps.all fun x => decide (x ≤ 112)
theorem wrap_zq {p s q : Str} (hp : lowB p = true) (hq : lowB q = true) (hs : s.cps.size = 1) : (p ++ s) ++ q ≠ ("zqzqzq" : Str) := by
  intro e
  have e := congrArg (fun z : Str => z.cps.toList) e
  have e : p.cps.toList ++ s.cps.toList ++ q.cps.toList = [122, 113, 122, 113, 122, 113] := by
    have z : (p ++ s ++ q).cps.toList = p.cps.toList ++ s.cps.toList ++ q.cps.toList := by
      show (p.cps ++ s.cps ++ q.cps).toList = _
      simp
    rw [← z]
    exact e.trans (by decide +kernel)
  have all : ∀ {r : Str}, lowB r = true → r.cps.toList.filter (fun x => decide (x ≤ 112)) = r.cps.toList := fun {r} h => by
    refine List.filter_eq_self.mpr fun x hx => ?_
    unfold lowB at h
    rw [← Array.all_toList] at h
    exact List.all_eq_true.mp h x hx
  have f := congrArg (fun l => (l.filter fun x => decide (x ≤ 112)).length) e
  simp only [List.filter_append, List.length_append, all hp, all hq] at f
  have f0 : (([122, 113, 122, 113, 122, 113] : List Nat).filter fun x => decide (x ≤ 112)).length = 0 := by decide
  rw [f0] at f
  have g := congrArg List.length e
  simp only [List.length_append, Array.length_toList, List.length_cons, List.length_nil] at f g
  omega
theorem wrap_qz {p s q : Str} (hp : lowB p = true) (hq : lowB q = true) (hs : s.cps.size = 1) : ((p ++ s) ++ q).cps.toList.take 4 ≠ [113, 122, 113, 122] := by
  intro e
  have z : (p ++ s ++ q).cps.toList = p.cps.toList ++ s.cps.toList ++ q.cps.toList := by
    show (p.cps ++ s.cps ++ q.cps).toList = _
    simp
  have none : ∀ {r : Str}, lowB r = true → r.cps.toList.filter (fun x => !decide (x ≤ 112)) = [] := fun {r} h => by
    refine List.filter_eq_nil_iff.mpr fun x hx => ?_
    unfold lowB at h
    rw [← Array.all_toList] at h
    have := List.all_eq_true.mp h x hx
    simpa using this
  have f := ((List.take_sublist 4 (p ++ s ++ q).cps.toList).filter fun x => !decide (x ≤ 112)).length_le
  rw [e, z, List.filter_append, List.filter_append, none hp, none hq, List.nil_append, List.append_nil] at f
  have f0 : (([113, 122, 113, 122] : List Nat).filter fun x => !decide (x ≤ 112)).length = 4 := by decide
  have f1 := List.length_filter_le (fun x => !decide (x ≤ 112)) s.cps.toList
  have hs' : s.cps.toList.length = 1 := by rw [Array.length_toList]; exact hs
  omega
theorem good_wrap {t n : Nat} {p q : Str} (h : t < 26) (hn : n ≤ 12) (hp : letters p = true) (hq : letters q = true) (hp' : lowB p = true) (hq' : lowB q = true) (sz : p.cps.size + q.cps.size ≤ 5) :
    GoodNames ((base1 t n).map fun s => (p ++ s) ++ q) n := by
  have g := good1 h hn
  refine ⟨by rw [List.length_map, g.len], nodup_map_inj (fun a b e => wrap_inj e) g.nd, fun s hs => ?_, fun m => ?_, fun s hs => ?_⟩
  rotate_left
  · obtain ⟨b, hb, e⟩ := List.mem_map.mp m
    exact wrap_zq hp' hq' (base1_size b hb) e
  · obtain ⟨b, hb, rfl⟩ := List.mem_map.mp hs
    exact wrap_qz hp' hq' (base1_size b hb)
  obtain ⟨b, hb, rfl⟩ := List.mem_map.mp hs
  have s1 := base1_size b hb
  refine name_of (by rw [strSize, strSize]; omega) (by rw [strSize, strSize]; omega) ?_
  have l := name_letters (g.nm b hb)
  unfold letters at hp hq l ⊢
  rw [strAll, strAll, hp, hq, l]
  rfl
theorem cut_letters {z : Str} (h : letters z = true) (lo hi : Option Int) : letters (cutS z lo hi) = true := by
  unfold letters at h ⊢
  rw [Array.all_eq_true'] at h ⊢
  intro x hx
  refine h x ?_
  unfold cutS at hx
  have hx : x ∈ ((z.cps.toList.drop (HT.sIx z.length 0 lo)).take (HT.sIx z.length z.length hi - HT.sIx z.length 0 lo)) := by simpa using hx
  have := List.mem_of_mem_drop (List.mem_of_mem_take hx)
  simpa using this
theorem cut_low {z : Str} (h : lowB z = true) (lo hi : Option Int) : lowB (cutS z lo hi) = true := by
  unfold lowB at h ⊢
  rw [← Array.all_toList, List.all_eq_true] at h ⊢
  intro x hx
  refine h x ?_
  unfold cutS at hx
  have hx : x ∈ ((z.cps.toList.drop (HT.sIx z.length 0 lo)).take (HT.sIx z.length z.length hi - HT.sIx z.length 0 lo)) := by simpa using hx
  exact List.mem_of_mem_drop (List.mem_of_mem_take hx)
theorem cut_sizes {z : Str} {a : Nat} (h : a ≤ z.cps.size) : (cutS z none (some (a : Int))).cps.size + (cutS z (some (a : Int)) none).cps.size = z.cps.size := by
  have l : z.length = z.cps.size := rfl
  unfold cutS
  simp only [List.size_toArray, List.length_take, List.length_drop, Array.length_toList, HT.sIx_nat, HT.sIx_none, l]
  omega
theorem name_ok {s : Str} (h : IsName s = true) : PyData.strOk s = true := by
  have l := name_letters h
  unfold letters at l
  unfold PyData.strOk
  rw [Array.all_eq_true'] at l ⊢
  intro x hx
  have := l x hx
  rw [Bool.and_eq_true, decide_eq_true_eq, decide_eq_true_eq] at this
  simp only [decide_eq_true_eq]
  omega
/-! a stem: letters joined by nothing -/
def One1 (y : Str) : Prop := letters y = true ∧ y.cps.size = 1 ∧ lowB y = true
theorem one1_sg {x : Nat} (h1 : 97 ≤ x) (h2 : x ≤ 112) : One1 (sg x) := by
  refine ⟨?_, rfl, ?_⟩
  · show (#[x].all fun x => decide (97 ≤ x) && decide (x ≤ 122)) = true
    have : x ≤ 122 := by omega
    simp [h1, this]
  · show (#[x].all fun x => decide (x ≤ 112)) = true
    simp [h2]
theorem joinStem : ∀ {ys : List Str}, (∀ y ∈ ys, One1 y) → letters (Str.join "" ys) = true ∧ (Str.join "" ys).cps.size = ys.length ∧ lowB (Str.join "" ys) = true
  | [], _ => ⟨by decide +kernel, by decide +kernel, by decide +kernel⟩
  | [x], h => h x List.mem_cons_self
  | x :: z :: r, h => by
    obtain ⟨i1, i2, i3⟩ := joinStem (ys := z :: r) fun y hy => h y (List.mem_cons_of_mem _ hy)
    obtain ⟨a1, a2, a3⟩ := h x List.mem_cons_self
    have e : Str.join "" (x :: z :: r) = (x ++ "") ++ Str.join "" (z :: r) := rfl
    rw [e]
    unfold letters at a1 i1 ⊢
    unfold lowB at a3 i3 ⊢
    refine ⟨?_, ?_, ?_⟩
    · rw [strAll, strAll, a1, i1]
      decide +kernel
    · rw [strSize, strSize, a2, i2]
      show 1 + 0 + (z :: r).length = (x :: z :: r).length
      simp only [List.length_cons]
      omega
    · rw [strAll, strAll, a3, i3]
      decide +kernel
theorem stem_ok {ys : List Str} (h : ∀ y ∈ ys, One1 y) : letters (Txt.join "" ys) = true ∧ (Txt.join "" ys).cps.size = ys.length ∧ lowB (Txt.join "" ys) = true := by
  rw [TL.join_eq]
  exact joinStem h
theorem sum_ones : ∀ {ys : List Str}, (∀ y ∈ ys, One1 y) → (ys.map (·.length)).sum = ys.length
  | [], _ => rfl
  | x :: r, h => by
    have i := sum_ones (ys := r) fun y hy => h y (List.mem_cons_of_mem _ hy)
    have a : x.length = 1 := (h x List.mem_cons_self).2.1
    rw [List.map_cons, List.sum_cons, i, a, List.length_cons]
    omega
theorem cutWords {a n : Nat} (ha : a < 12) (hn : n ≤ 12) : cutV (words12.map V.str ++ words12.map V.str) (some (a : Int)) (some ((a : Int) + (n : Int))) = (((words12 ++ words12).drop a).take n).map V.str := by
  have e : ((a : Int) + (n : Int)) = ((a + n : Nat) : Int) := by omega
  have l : (words12.map V.str ++ words12.map V.str).length = 24 := rfl
  unfold cutV
  rw [e, l, HT.sIx_nat, HT.sIx_nat, Nat.min_eq_left (by omega), Nat.min_eq_left (by omega), List.map_take, List.map_drop, List.map_append, show a + n - a = n by omega]
theorem permStr {ys : List V} {ss : List Str} (h : ys.Perm (ss.map V.str)) : ∃ zs : List Str, ys = zs.map V.str ∧ zs.Perm ss := by
  let bk : V → Str := fun v => match v with | .str s => s | _ => ""
  refine ⟨ys.map bk, ?_, ?_⟩
  · have all : ∀ y ∈ ys, V.str (bk y) = y := fun y hy => by
      obtain ⟨s, _, rfl⟩ := List.mem_map.mp (h.mem_iff.mp hy)
      rfl
    rw [List.map_map]
    exact (List.map_congr_left (g := id) all).symm ▸ (List.map_id ys).symm
  · have p := h.map bk
    rw [List.map_map] at p
    have e : ss.map (bk ∘ V.str) = ss := by
      have : (bk ∘ V.str) = id := rfl
      rw [this, List.map_id]
    rw [e] at p
    exact p
end L2.Und
end

section
set_option Elab.async false
set_option linter.all false
set_option maxRecDepth 100000
set_option maxHeartbeats 4000000
namespace L2.Und
open PySem PySem.Spec PyProof.Rows _root_.Und
abbrev sNames : Stmt := topS 23
abbrev nNames : List Str := ["_law_deal_here", "_law_many", "_law_letters", "_law_form", "_law_turn", "_law_found", "_law_at", "_law_stem", "_law_words", "_law_k", "_law_letter"]
theorem scNames : FnScope nNames ["_law_deal_here", "_law_many"] (defScope sNames) := ⟨rfl, rfl, rfl, by decide +kernel, rfl, by decide +kernel, by decide +kernel⟩
def spNames : Sp := fun vs H Q _ => ∃ (d c : Addr) (n : Nat), vs = [.ref d, .int (n : Int)] ∧ Deal H d c ∧ 1 ≤ n ∧ n ≤ 12 ∧
  ∀ (r : Addr) (ss : List Str) (H' : Hp), H r = none → Deal H' d c → Kept d c H H' → H' r = some (.lst (ss.map V.str)) → GoodNames ss n → Q (.ref r) H'
def NamesMid (d c : Addr) (n : Nat) (r5 : Int) (t : Nat) (H : Hp) : L2.St → Hp → Prop := fun σ' H' => ∃ F ss x6 x7 x8 x9 x10, σ' = [some (.ref d), some (.int (n : Int)), some (.str abcS), some (.int r5), some (.int (t : Int)), some (.ref F), x6, x7, x8, x9, x10] ∧ H' F = some (.lst (ss.map V.str)) ∧ GoodNames ss n ∧ Deal H' d c ∧ Kept d c H H'
section
variable {P : Program} {w : World} {K : PySem.W.Frag} {mg : Str → Option Value} {base : Heap}
theorem okNames {f fD fM : Addr} {fd fdD fdM : FuncData} (F : Fun K "_law_names" "_law_names" sNames f fd)
    (GD : FnOk P w K mg base CX0 1 fD fdD ["_law_deal_here", "_law_many"] spDraw) (mD : mg "_law_draw" = some (.ref fD)) (kD : PySem.W.keepIn K (.ref fD) = true) (bD : Binds K fdD ["_law_deal_here", "_law_many"] [])
    (GM : FnOk P w K mg base CX0 2 fM fdM ["_law_deal_here", "_law_items"] (spMixed K)) (mM : mg "_law_mixed" = some (.ref fM)) (kM : PySem.W.keepIn K (.ref fM) = true) (bM : Binds K fdM ["_law_deal_here", "_law_items"] [])
    (mR : mg "range" = none) : FnOk P w K mg base CX0 3 f fd ["_law_deal_here", "_law_many"] spNames := by
  refine F.ok scNames (fun vs H Q E h => ?_) (fun cdv A outer s H vs Q E hr h => ?_)
  · obtain ⟨d, c, n, rfl, _⟩ := h
    rfl
  have hr1 : Room 1 (A.deeper (envOfC "_law_names" (defScope sNames) s.heap.objs.size f cdv)) := hr.mono (by decide)
  refine ⟨_, pss_cons (ps_asg (pe_tup (pa_cons pe_str (pa_cons (pe_call GD hr1 rfl mD kD bD .nil pass0 (pa_cons (pv 0) (pa_cons pe_int pa_nil))) (pa_cons (pe_call GD hr1 rfl mD kD bD .nil pass0 (pa_cons (pv 0) (pa_cons pe_int pa_nil))) pa_nil))))
        (pg_tup rfl (pgs_cons (pg_name (i := 2) scNames.nd rfl (Or.inr rfl)) (pgs_cons (pg_name (i := 3) scNames.nd rfl (Or.inl rfl)) (pgs_cons (pg_name (i := 4) scNames.nd rfl (Or.inr rfl)) pgs_nil)))))
    (pss_cons (ps_setLc (i := 5) (own := [("_law_k", 9)]) (g := gName 9) (tt := tYes) rfl scNames.nd rfl rfl (sw_true rfl rfl rfl (by decide +kernel))
        (pi_range1 rfl mR (pa_cons (pv 1) pa_nil)) (blkOk_by (N := nNames) (sc := defScope sNames) (by decide +kernel))
        (fun _ _ _ _ _ => pg_name (i := 9) scNames.nd rfl (Or.inl rfl)) (fun _ _ _ _ _ => pts_nil)
        (fun _ _ _ _ _ => pe_ix ix_str (pv 2) (pe_op op_mod (pe_op op_add (pv 4) (pe_op op_mul pe_int (pv 9))) pe_int) (fun _ _ => rfl)))
    (C8.pss_cut (ps_if (pt_cmpR op_eq (pv 3) pe_int (nomark _))
        (pss_cons (ps_asg (pe_tup (pa_cons (pe_call GD hr1 rfl mD kD bD .nil pass0 (pa_cons (pv 0) (pa_cons pe_int pa_nil)))
              (pa_cons (pe_join pe_str (pe_lc (own := [("_law_k", 9)]) (g := gName 9) (tt := tYes) rfl scNames.nd (pi_range1 rfl mR (pa_cons pe_int pa_nil)) (blkOk_by (N := nNames) (sc := defScope sNames) (by decide +kernel))
                (fun _ _ _ _ _ => pg_name (i := 9) scNames.nd rfl (Or.inl rfl)) (fun _ _ _ _ _ => pts_nil)
                (fun _ _ _ _ _ => pe_ix ix_str (pv 2) (pe_call GD hr1 rfl mD kD bD .nil pass0 (pa_cons (pv 0) (pa_cons pe_int pa_nil))) (fun _ _ => rfl)))) pa_nil)))
            (pg_tup rfl (pgs_cons (pg_name (i := 6) scNames.nd rfl (Or.inr rfl)) (pgs_cons (pg_name (i := 7) scNames.nd rfl (Or.inr rfl)) pgs_nil))))
        (pss_one (ps_setLc (i := 5) (own := [("_law_letter", 10)]) (g := gName 10) (tt := tYes) rfl scNames.nd rfl rfl (sw_true rfl rfl rfl (by decide +kernel))
            (pi_list (pv 5)) (blkOk_by (N := nNames) (sc := defScope sNames) (by decide +kernel))
            (fun _ _ _ _ _ => pg_name (i := 10) scNames.nd rfl (Or.inl rfl)) (fun _ _ _ _ _ => pts_nil)
            (fun _ _ _ _ _ => pe_op op_add_str (pe_op op_add_str (pe_slice sl_str (pv 7) po_none (po_some (pv 6))) (pv 10)) (pe_slice sl_str (pv 7) (po_some (pv 6)) po_none))))) pss_nil)
    (C8.pss_cut (ps_if (pt_cmpR op_eq (pv 3) pe_int (nomark _))
        (pss_one (ps_setLc (i := 5) (own := [("_law_k", 9)]) (g := gName 9) (tt := tYes) rfl scNames.nd rfl rfl (sw_true rfl rfl rfl (by decide +kernel))
            (pi_range1 rfl mR (pa_cons (pv 1) pa_nil)) (blkOk_by (N := nNames) (sc := defScope sNames) (by decide +kernel))
            (fun _ _ _ _ _ => pg_name (i := 9) scNames.nd rfl (Or.inl rfl)) (fun _ _ _ _ _ => pts_nil)
            (fun _ _ _ _ _ => pe_op op_add_str (pe_ix ix_str (pv 2) (pe_op op_mod (pe_op op_add (pv 4) (pe_op op_mul pe_int (pe_op op_fdiv (pv 9) pe_int))) pe_int) (fun _ _ => rfl))
                (pe_slice sl_str pe_str po_none (po_some (pe_op op_mod (pv 9) pe_int)))))) pss_nil)
    (C8.pss_cut (ps_if (pt_cmpR op_eq (pv 3) pe_int (nomark _))
        (pss_cons (ps_set (i := 8) scNames.nd rfl (Or.inl rfl) (pe_lst (pa_cons pe_str (pa_cons pe_str (pa_cons pe_str (pa_cons pe_str (pa_cons pe_str (pa_cons pe_str (pa_cons pe_str (pa_cons pe_str (pa_cons pe_str (pa_cons pe_str (pa_cons pe_str (pa_cons pe_str pa_nil))))))))))))))
        (pss_one (ps_set (i := 5) scNames.nd rfl (Or.inl rfl) (pe_slice sl_list (pe_op op_cat (pv 8) (pv 8)) (po_some (pe_op op_mod (pv 4) pe_int)) (po_some (pe_op op_add (pe_op op_mod (pv 4) pe_int) (pv 1))))))) pss_nil)
    (pss_one (ps_ret (pe_call GM (hr.mono (by decide)) rfl mM kM bM .nil pass0 (pa_cons (pv 0) (pa_cons (pv 5) pa_nil))))))))), ?_⟩
  obtain ⟨d, c, n, rfl, hD, n1, n12, q⟩ := h
  refine ⟨_, rfl, d, c, 5, rfl, hD, by decide, by decide, fun r5 H1 a0 a5 hD1 k1 => ⟨_, rfl, d, c, 26, rfl, hD1, by decide, by decide, fun t0 H2 b0 b26 hD2 k2 => ⟨(by show 3 ≤ sizeLine; decide), fun T hT => ?_⟩⟩⟩
  obtain ⟨t, rfl⟩ : ∃ t : Nat, t0 = (t : Int) := ⟨t0.toNat, by omega⟩
  have t26 : t < 26 := by omega
  have sT := sameNew (o := .tup [V.str abcS, V.int r5, V.int (t : Int)]) hT
  have eT : upd H2 T (HO.tup [V.str abcS, V.int r5, V.int (t : Int)]) T = some (.tup [V.str abcS, V.int r5, V.int (t : Int)]) := upd_same
  have hD3 := hD2.same sT
  have k3 := (k1.trans k2).trans (Kept.of sT)
  generalize upd H2 T (.tup [V.str abcS, V.int r5, V.int (t : Int)]) = H3 at sT eT hD3 k3
  refine ⟨T, _, rfl, SqT.of eT, rfl, _, _, rfl, _, _, rfl, _, _, rfl, rfl, ?_⟩
  refine ⟨_, rfl, _, rfl, by omega, by omega, fun D hDn => ?_⟩
  have Dd := hD3.ned hDn
  have Dc := hD3.nec hDn
  have s0 := sameNew (o := .lst []) hDn
  have hH0 : H D = none := k3.none hD3 hDn
  refine lc_range (lo := 0) (n := n) (fun j H' => Same H3 H' ∧ H' D = some (.lst ((base1 t j).map V.str))) ⟨s0, upd_same⟩ ?_ ?_
  · rintro j H' hj ⟨g1, g2⟩
    have e : ((t : Int) + 7 * (0 + (j : Int))) % 26 = (((t + 7 * j) % 26 : Nat) : Int) := by omega
    refine ⟨rfl, _, rfl, _, rfl, _, rfl, _, _, rfl, rfl, .inl ⟨by decide, by decide⟩, _, _, rfl, rfl, _, _, rfl, rfl, (by show (0 : Int) < 26; decide), _, _, _, rfl, rfl, (by decide +kernel), (by rw [e]; exact abc_at (Nat.mod_lt _ (by decide))), _, g2, ?_, ?_, ?_⟩
    · rw [List.length_map, base1_len]
      exact small1000 (by omega)
    · exact fun b o z => by rw [upd_ne (ne_of_none z hDn)]; exact g1 b o z
    · rw [upd_same, base1_succ, List.map_append]
      rfl
  rintro H4 ⟨s4, e4⟩
  have hD4 := hD3.same s4
  have k4 := k3.trans (Kept.of s4)
  have g0 := good1 t26 n12
  refine ⟨NamesMid d c n r5 t H, ?_, ?_⟩
  · refine ⟨_, rfl, rfl, _, rfl, ?_⟩
    refine ite2 (fun _ => ?_) (fun _ => ⟨D, _, _, _, _, _, _, rfl, e4, g0, hD4, k4⟩)
    refine ⟨_, rfl, d, c, 6, rfl, hD4, by decide, by decide, fun a0 H5 z0 z6 hD5 k5 => ?_⟩
    have e5 := k5 D _ Dd Dc e4
    obtain ⟨a, rfl⟩ : ∃ a : Nat, a0 = (a : Int) := ⟨a0.toNat, by omega⟩
    refine ⟨⟨_, rfl⟩, _, rfl, by decide, by decide, fun D2 hD2n => ?_⟩
    have s5 := sameNew (o := .lst []) hD2n
    have D2d := hD5.ned hD2n
    have D2c := hD5.nec hD2n
    refine lc_range (lo := 0) (n := 5) (fun j H' => Deal H' d c ∧ Kept d c H5 H' ∧ ∃ ys : List Str, H' D2 = some (.lst (ys.map V.str)) ∧ ys.length = j ∧ ∀ y ∈ ys, One1 y) ⟨hD5.same s5, .of s5, [], upd_same, rfl, fun y hy => nomatch hy⟩ ?_ ?_
    · rintro j H' hj ⟨g1, g2, ys, g3, g4, g5⟩
      refine ⟨rfl, _, rfl, _, rfl, d, c, 16, rfl, g1, by decide, by decide, fun x0 H6 y0 y16 hD7 k7 => ?_⟩
      obtain ⟨x, rfl⟩ : ∃ x : Nat, x0 = (x : Int) := ⟨x0.toNat, by omega⟩
      have x16 : x < 16 := by omega
      refine ⟨_, _, _, rfl, rfl, (by decide +kernel), abc_at (by omega), _, k7 D2 _ D2d D2c g3, ?_, hD7.upd D2d D2c, (g2.trans k7).upd hD2n, ys ++ [sg (97 + x)], ?_, ?_, ?_⟩
      · rw [List.length_map]
        exact small1000 (by omega)
      · rw [upd_same, List.map_append]
        rfl
      · rw [List.length_append, g4]
        rfl
      · intro y hy
        rcases List.mem_append.mp hy with hy | hy
        · exact g5 y hy
        · rw [List.mem_singleton.mp hy]
          exact one1_sg (by omega) (by omega)
    rintro H7 ⟨hD7, k7, ys, e7, l7, o7⟩
    obtain ⟨st1, st2, st3⟩ := stem_ok o7
    refine ⟨_, D2, ys, rfl, rfl, .inl (SqL.of e7), ?_, ?_⟩
    · rw [sum_ones o7, l7]
      decide +kernel
    rw [l7] at st2
    generalize Txt.join "" ys = stem at st1 st2 st3
    have kD := k7 D _ Dd Dc e5
    have k8 := (k4.trans k5).trans k7
    refine ⟨(by show 2 ≤ sizeLine; decide), fun T2 hT2 => ?_⟩
    have sT2 := sameNew (o := .tup [V.int (a : Int), V.str stem]) hT2
    have eT2 : upd H7 T2 (HO.tup [V.int (a : Int), V.str stem]) T2 = some (.tup [V.int (a : Int), V.str stem]) := upd_same
    have hD8 := hD7.same sT2
    have k9 := k8.trans (Kept.of sT2)
    have e8 := sT2 _ _ kD
    generalize upd H7 T2 (.tup [V.int (a : Int), V.str stem]) = H8 at sT2 eT2 hD8 k9 e8
    refine ⟨T2, _, rfl, SqT.of eT2, rfl, _, _, rfl, _, _, rfl, rfl, ?_⟩
    refine ⟨_, rfl, D, rfl, ⟨_, SqL.of e8⟩, fun D3 hD3n => ?_⟩
    have s8 := sameNew (o := .lst []) hD3n
    refine lc_list (K := K) (a := D) (xs := (base1 t n).map V.str) (fun i H' => Same H8 H' ∧ H' D3 = some (.lst ((((base1 t n).take i).map fun s => (cutS stem none (some (a : Int)) ++ s) ++ cutS stem (some (a : Int)) none).map V.str))) ⟨s8, upd_same⟩
      (fun i H' _ h => SqL.of (h.1 _ _ e8)) ?_ ?_
    · rintro i x H' hx ⟨g1, g2⟩
      obtain ⟨z, hz, rfl⟩ : ∃ z, (base1 t n)[i]? = some z ∧ x = V.str z := by
        rw [List.getElem?_map] at hx
        cases e : (base1 t n)[i]? with
        | none => rw [e] at hx; cases hx
        | some z => rw [e] at hx; exact ⟨z, rfl, (Option.some.inj hx).symm⟩
      have zs : z.cps.size = 1 := base1_size z (List.mem_of_getElem? hz)
      have c1 : (cutS stem none (some (a : Int))).cps.size + (cutS stem (some (a : Int)) none).cps.size = 5 := (cut_sizes (by omega)).trans st2
      have il := (List.getElem?_eq_some_iff.mp hz).1
      rw [base1_len] at il
      have sl : stem.length ≤ sizeLine := fits (by show stem.cps.size ≤ 1000; omega)
      refine ⟨rfl, _, rfl, _, rfl, _, rfl, _, rfl, sl, _, rfl, _, _, rfl, rfl, fits ?_, _, rfl, _, rfl, _, rfl, _, rfl, sl, _, _, rfl, rfl, fits ?_, _, g2, ?_, Same.upd g1 hD3n, ?_⟩
      · show (cutS stem none (some (a : Int))).cps.size + z.cps.size ≤ 1000
        omega
      · show (cutS stem none (some (a : Int)) ++ z).cps.size + (cutS stem (some (a : Int)) none).cps.size ≤ 1000
        rw [strSize]
        omega
      · rw [List.length_map, List.length_map, List.length_take, base1_len]
        exact small1000 (by omega)
      · rw [upd_same, List.take_succ, hz, List.map_append, List.map_append]
        rfl
    rintro H9 ⟨s9, e9⟩
    rw [List.length_map, List.take_length] at e9
    exact ⟨D3, _, _, _, _, _, _, rfl, e9, good_wrap t26 n12 (cut_letters st1 _ _) (cut_letters st1 _ _) (cut_low st3 _ _) (cut_low st3 _ _) (by rw [cut_sizes (by omega)]; omega), hD8.same s9, k9.trans (.of s9)⟩
  rintro σ1 H1 ⟨F1, ss1, x6, x7, x8, x9, x10, rfl, f1, G1, hD1, k1⟩
  refine ⟨NamesMid d c n r5 t H, ?_, ?_⟩
  · refine ⟨_, rfl, rfl, _, rfl, ?_⟩
    refine ite2 (fun _ => ?_) (fun _ => ⟨F1, ss1, _, _, _, _, _, rfl, f1, G1, hD1, k1⟩)
    refine ⟨_, rfl, _, rfl, by omega, by omega, fun D hDn => ?_⟩
    have s0 := sameNew (o := .lst []) hDn
    refine lc_range (lo := 0) (n := n) (fun j H' => Same H1 H' ∧ H' D = some (.lst ((base2 t j).map V.str))) ⟨s0, upd_same⟩ ?_ ?_
    · rintro j H' hj ⟨g1, g2⟩
      have e : ((t : Int) + 7 * ((0 + (j : Int)) / 6)) % 26 = (((t + 7 * (j / 6)) % 26 : Nat) : Int) := by omega
      have e6 : (0 + (j : Int)) % 6 = ((j % 6 : Nat) : Int) := by omega
      refine ⟨rfl, _, rfl, _, rfl, _, rfl, _, _, rfl, rfl, ⟨by decide, by decide⟩, _, _, rfl, rfl, .inl ⟨by decide, by decide⟩, _, _, rfl, rfl, _, _, rfl, rfl, (by show (0 : Int) < 26; decide), _, _, _, rfl, rfl, (by decide +kernel), (by rw [e]; exact abc_at (Nat.mod_lt _ (by decide))),
        _, rfl, _, _, rfl, rfl, (by show (0 : Int) < 6; decide), _, rfl, _, rfl, (by decide +kernel), _, _, rfl, rfl, fits ?_, _, g2, ?_, Same.upd g1 hDn, ?_⟩
      · have c1 := cut_sizes (z := oddS) (a := j % 6) (by show j % 6 ≤ 6; omega)
        have c2 : oddS.cps.size = 6 := by decide +kernel
        rw [e6]
        show 1 + (cutS oddS none (some ((j % 6 : Nat) : Int))).cps.size ≤ 1000
        omega
      · rw [List.length_map, base2_len]
        exact small1000 (by omega)
      · rw [upd_same, base2_succ, List.map_append, e6]
        rfl
    rintro H2 ⟨s2, e2⟩
    exact ⟨D, _, _, _, _, _, _, rfl, e2, good2 t26 n12, hD1.same s2, k1.trans (.of s2)⟩
  rintro σ1 H1 ⟨F1, ss1, x6, x7, x8, x9, x10, rfl, f1, G1, hD1, k1⟩
  refine ⟨NamesMid d c n r5 t H, ?_, ?_⟩
  · refine ⟨_, rfl, rfl, _, rfl, ?_⟩
    refine ite2 (fun _ => ?_) (fun _ => ⟨F1, ss1, _, _, _, _, _, rfl, f1, G1, hD1, k1⟩)
    refine ⟨(by show 12 ≤ sizeLine; decide), fun W hW => ?_⟩
    have sW := sameNew (o := .lst (words12.map V.str)) hW
    have eW : upd H1 W (HO.lst (words12.map V.str)) W = some (.lst (words12.map V.str)) := upd_same
    have hD2 := hD1.same sW
    have k2 := k1.trans (Kept.of sW)
    show gName 8 (.ref W) _ (upd H1 W (.lst (words12.map V.str))) _
    generalize upd H1 W (.lst (words12.map V.str)) = H2 at sW eW hD2 k2
    refine ⟨_, rfl, _, rfl, W, W, _, _, rfl, rfl, eW, eW, (by show 24 ≤ sizeLine; decide), fun X hX => ?_⟩
    have sX := sameNew (o := .lst (words12.map V.str ++ words12.map V.str)) hX
    have eX : upd H2 X (HO.lst (words12.map V.str ++ words12.map V.str)) X = some (.lst (words12.map V.str ++ words12.map V.str)) := upd_same
    have hD3 := hD2.same sX
    have k3 := k2.trans (Kept.of sX)
    generalize upd H2 X (.lst (words12.map V.str ++ words12.map V.str)) = H3 at sX eX hD3 k3
    have ea : (t : Int) % 12 = ((t % 12 : Nat) : Int) := by omega
    refine ⟨_, rfl, _, _, rfl, rfl, (by show (0 : Int) < 12; decide), _, rfl, _, rfl, _, _, rfl, rfl, (by show (0 : Int) < 12; decide), _, rfl, _, _, rfl, rfl, _, rfl, X, _, rfl, SqL.of eX, fun Y hY => ?_⟩
    rw [ea, cutWords (Nat.mod_lt _ (by decide)) n12]
    exact ⟨Y, _, _, _, _, _, _, rfl, upd_same, good3 (Nat.mod_lt _ (by decide)) n12, hD3.same (sameNew hY), k3.trans (.of (sameNew hY))⟩
  rintro σ1 H1 ⟨F1, ss1, x6, x7, x8, x9, x10, rfl, f1, G1, hD1, k1⟩
  refine ⟨_, rfl, _, rfl, d, c, F1, _, rfl, hD1, .inl (SqL.of f1), Off.strs fun s hs => name_ok (G1.nm s hs), ?_, fun r ys H2 r1 hD2 k2 e p => ?_⟩
  · rw [List.length_map, G1.len]
    omega
  obtain ⟨zs, rfl, pz⟩ := permStr p
  exact q r zs H2 (k1.none hD1 r1) hD2 (k1.trans k2) e (G1.perm pz)
end
end L2.Und
end

section
set_option Elab.async false
set_option linter.all false
set_option maxRecDepth 100000
set_option maxHeartbeats 4000000
namespace L2.Und
open PySem PySem.Spec PyProof.Rows _root_.Und
/-! ### the free pairs that the laws draw -/
theorem permMap {α β : Type} {f : α → β} : ∀ {l : List α} {ys : List β}, ys.Perm (l.map f) → ∃ l' : List α, ys = l'.map f ∧ l'.Perm l
  | [], ys, h => ⟨[], List.perm_nil.mp h, .nil⟩
  | a :: l, ys, h => by
    have m : f a ∈ ys := h.mem_iff.mpr List.mem_cons_self
    obtain ⟨s, t, rfl⟩ := List.append_of_mem m
    have p : (s ++ t).Perm (l.map f) := (List.perm_middle.symm.trans h).cons_inv
    obtain ⟨l1, e, p1⟩ := permMap p
    have es : (l1.take s.length).map f = s := by rw [List.map_take, ← e, List.take_left]
    have et : (l1.drop s.length).map f = t := by rw [List.map_drop, ← e, List.drop_left]
    refine ⟨l1.take s.length ++ a :: l1.drop s.length, by rw [List.map_append, List.map_cons, es, et], ?_⟩
    refine List.perm_middle.trans ?_
    rw [List.take_append_drop]
    exact p1.cons a
/-- triangular numbers: how many pairs there are -/
def tri : Nat → Nat
  | 0 => 0
  | n + 1 => tri n + n
theorem tri_le {n : Nat} (h : n ≤ 12) : tri n ≤ 66 := by
  have : n = 0 ∨ n = 1 ∨ n = 2 ∨ n = 3 ∨ n = 4 ∨ n = 5 ∨ n = 6 ∨ n = 7 ∨ n = 8 ∨ n = 9 ∨ n = 10 ∨ n = 11 ∨ n = 12 := by omega
  rcases this with rfl | rfl | rfl | rfl | rfl | rfl | rfl | rfl | rfl | rfl | rfl | rfl | rfl <;> decide
theorem tri_mono {m n : Nat} (h : m ≤ n) : tri m ≤ tri n := by
  induction h with
  | refl => exact Nat.le_refl _
  | step _ ih => exact Nat.le_trans ih (Nat.le_add_right _ _)
/-- a pair and the pair turned round -/
def apart (p q : Str × Str) : Prop := p ≠ q ∧ p ≠ (q.2, q.1)
theorem apart_symm {p q : Str × Str} (h : apart p q) : apart q p := ⟨fun e => h.1 e.symm, fun e => h.2 (by cases p; cases q; cases e; rfl)⟩
structure GoodPairs (ks : List Str) (xs : List (Str × Str)) : Prop where
  mem : ∀ p ∈ xs, p.1 ∈ ks ∧ p.2 ∈ ks ∧ p.1 ≠ p.2
  ap : xs.Pairwise apart
  len : xs.length ≤ tri ks.length
theorem GoodPairs.perm {ks : List Str} {xs ys : List (Str × Str)} (g : GoodPairs ks xs) (h : ys.Perm xs) : GoodPairs ks ys :=
  ⟨fun p hp => g.mem p (h.mem_iff.mp hp), (h.pairwise_iff (fun {_ _} => apart_symm)).mpr g.ap, by rw [h.length_eq]; exact g.len⟩
/-- the pairs found ahead of the j-th one of the i-th kind -/
structure Ahead (ks : List Str) (i j : Nat) (xs : List (Str × Str)) : Prop where
  at' : ∀ p ∈ xs, ∃ a b x y, b < a ∧ (a < i ∨ a = i ∧ b < j) ∧ ks[a]? = some x ∧ ks[b]? = some y ∧ (p = (x, y) ∨ p = (y, x))
  ap : xs.Pairwise apart
  len : xs.length ≤ tri i + j
theorem Ahead.zero (ks : List Str) : Ahead ks 0 0 [] := ⟨fun p h => (nomatch h), .nil, Nat.zero_le _⟩
theorem Ahead.skip {ks : List Str} {i j : Nat} {xs : List (Str × Str)} (h : Ahead ks i j xs) : Ahead ks i (j + 1) xs :=
  ⟨fun p hp => by
    obtain ⟨a, b, x, y, h1, h2, r⟩ := h.at' p hp
    exact ⟨a, b, x, y, h1, by omega, r⟩, h.ap, Nat.le_succ_of_le h.len⟩
theorem Ahead.next {ks : List Str} {i : Nat} {xs : List (Str × Str)} (h : Ahead ks i i xs) : Ahead ks (i + 1) 0 xs :=
  ⟨fun p hp => by
    obtain ⟨a, b, x, y, h1, h2, r⟩ := h.at' p hp
    exact ⟨a, b, x, y, h1, by omega, r⟩, h.ap, h.len⟩
theorem nodup_at {ks : List Str} (nd : ks.Nodup) {a b : Nat} {x : Str} (h1 : ks[a]? = some x) (h2 : ks[b]? = some x) : a = b := by
  exact (List.getElem?_inj (List.getElem?_eq_some_iff.mp h1).1 nd).mp (h1.trans h2.symm)
theorem Ahead.more {ks : List Str} (nd : ks.Nodup) {i j : Nat} {xs : List (Str × Str)} {x y : Str} {p : Str × Str} (h : Ahead ks i j xs) (hj : j < i) (hx : ks[i]? = some x) (hy : ks[j]? = some y) (hp : p = (x, y) ∨ p = (y, x)) :
    Ahead ks i (j + 1) (xs ++ [p]) := by
  refine ⟨fun q hq => ?_, ?_, ?_⟩
  · rcases List.mem_append.mp hq with hq | hq
    · exact h.skip.at' q hq
    · exact ⟨i, j, x, y, hj, .inr ⟨rfl, by omega⟩, hx, hy, List.mem_singleton.mp hq ▸ hp⟩
  · rw [List.pairwise_append]
    refine ⟨h.ap, List.pairwise_singleton _ _, fun q hq r hr => ?_⟩
    rw [List.mem_singleton.mp hr]
    obtain ⟨a, b, u, v, h1, h2, h3, h4, h5⟩ := h.at' q hq
    have key : ¬ ((u = x ∧ v = y) ∨ (u = y ∧ v = x)) := by
      rintro (⟨e1, e2⟩ | ⟨e1, e2⟩)
      · have r1 := nodup_at nd h3 (e1 ▸ hx)
        have r2 := nodup_at nd h4 (e2 ▸ hy)
        omega
      · have r1 := nodup_at nd h3 (e1 ▸ hy)
        have r2 := nodup_at nd h4 (e2 ▸ hx)
        omega
    refine ⟨fun e => key ?_, fun e => key ?_⟩
    · rcases h5 with rfl | rfl <;> rcases hp with rfl | rfl <;> cases e <;> simp
    · rcases h5 with rfl | rfl <;> rcases hp with rfl | rfl <;> cases e <;> simp
  · rw [List.length_append, List.length_singleton]
    have := h.len
    omega
theorem Ahead.good {ks : List Str} (nd : ks.Nodup) {xs : List (Str × Str)} (h : Ahead ks ks.length 0 xs) : GoodPairs ks xs :=
  ⟨fun p hp => by
    obtain ⟨a, b, x, y, h1, h2, h3, h4, h5⟩ := h.at' p hp
    have ne : x ≠ y := fun e => by
      have := nodup_at nd h3 (e ▸ h4)
      omega
    have m1 := List.mem_of_getElem? h3
    have m2 := List.mem_of_getElem? h4
    rcases h5 with rfl | rfl
    · exact ⟨m1, m2, ne⟩
    · exact ⟨m2, m1, ne.symm⟩, h.ap, h.len⟩
/-! pairs in the heap -/
abbrev PL := List (Addr × Str × Str)
def PairsAt (H : Hp) (L : PL) : Prop := ∀ e ∈ L, H e.1 = some (.tup [.str e.2.1, .str e.2.2])
theorem PairsAt.kept {H H' : Hp} {d c : Addr} {L : PL} (h : PairsAt H L) (x : Deal H d c) (k : Kept d c H H') : PairsAt H' L := fun e he => by
  have t := h e he
  have q := Deal.ints x t (fun _ z => nomatch z) (fun _ z => nomatch z)
  exact k _ _ q.1 q.2 t
theorem PairsAt.same {H H' : Hp} {L : PL} (h : PairsAt H L) (s : Same H H') : PairsAt H' L := fun e he => s _ _ (h e he)
theorem PairsAt.off {K : PySem.W.Frag} {H : Hp} {d c : Addr} {L : PL} (h : PairsAt H L) (x : Deal H d c) (ok : ∀ e ∈ L, PyData.strOk e.2.1 = true ∧ PyData.strOk e.2.2 = true) : Off K d c H (L.map fun e => V.ref e.1) := by
  refine ⟨fun b => if (L.any fun e => e.1 == b) = true then H b else none, ?_, ?_, ?_, ?_⟩
  · show (if (L.any fun e => e.1 == d) = true then H d else none) = none
    rw [if_neg]
    intro z
    obtain ⟨e, he, q⟩ := List.any_eq_true.mp z
    have q : e.1 = d := by simpa using q
    exact (Deal.ints x (h e he) (fun _ z => nomatch z) (fun _ z => nomatch z)).1 q
  · show (if (L.any fun e => e.1 == c) = true then H c else none) = none
    rw [if_neg]
    intro z
    obtain ⟨e, he, q⟩ := List.any_eq_true.mp z
    have q : e.1 = c := by simpa using q
    exact (Deal.ints x (h e he) (fun _ z => nomatch z) (fun _ z => nomatch z)).2 q
  · intro b o e
    have e : (if (L.any fun e => e.1 == b) = true then H b else none) = some o := e
    by_cases z : (L.any fun e => e.1 == b) = true
    · simpa only [if_pos z] using e
    · rw [if_neg z] at e
      cases e
  · intro v hv
    obtain ⟨e, he, rfl⟩ := List.mem_map.mp hv
    have z : (L.any fun u => u.1 == e.1) = true := List.any_eq_true.mpr ⟨e, he, by simp⟩
    refine ⟨.tuple [.str e.2.1, .str e.2.2], .tup (SqT.of ?_) (.cons (.str _) (.cons (.str _) .nil)), ?_, ?_⟩
    · show (if (L.any fun u => u.1 == e.1) = true then H e.1 else none) = _
      rw [if_pos z]
      exact h e he
    · simp [PyData.canLay0, PyData.canLayAll0, (ok e he).1, (ok e he).2]
    · simp [PyData.depth, PyData.depthAll]
theorem cutTake {ks : List Str} {i : Nat} (h : i ≤ ks.length) : cutV (ks.map V.str) none (some (i : Int)) = (ks.take i).map V.str := by
  unfold cutV
  rw [HT.sIx_none, HT.sIx_nat, List.length_map, Nat.min_eq_left h, List.drop_zero, Nat.sub_zero, List.map_take]
/-- where the walk over the pairs stands -/
structure PSt (ks : List Str) (H : Hp) (d c F0 : Addr) (i j : Nat) (H' : Hp) (L : PL) : Prop where
  deal : Deal H' d c
  kept : Kept d c H H'
  lst : H' F0 = some (.lst (L.map fun e => V.ref e.1))
  prs : PairsAt H' L
  fresh : ∀ e ∈ L, H e.1 = none
  ahead : Ahead ks i j (L.map (·.2))
section
variable {ks : List Str} {H H' H2 : Hp} {d c F0 : Addr} {i j : Nat} {L : PL}
theorem PSt.same (x : PSt ks H d c F0 i j H' L) (s : Same H' H2) : PSt ks H d c F0 i j H2 L :=
  ⟨Deal.same x.deal s, Kept.trans x.kept (Kept.of s), s _ _ x.lst, x.prs.same s, x.fresh, x.ahead⟩
theorem PSt.draw (x : PSt ks H d c F0 i j H' L) (k : Kept d c H' H2) (hD : Deal H2 d c) (h1 : F0 ≠ d) (h2 : F0 ≠ c) : PSt ks H d c F0 i j H2 L :=
  ⟨hD, Kept.trans x.kept k, k _ _ h1 h2 x.lst, x.prs.kept x.deal k, x.fresh, x.ahead⟩
theorem PSt.skip (x : PSt ks H d c F0 i j H' L) : PSt ks H d c F0 i (j + 1) H' L := ⟨x.deal, x.kept, x.lst, x.prs, x.fresh, x.ahead.skip⟩
theorem PSt.next (x : PSt ks H d c F0 i i H' L) : PSt ks H d c F0 (i + 1) 0 H' L := ⟨x.deal, x.kept, x.lst, x.prs, x.fresh, x.ahead.next⟩
theorem PSt.more {t : Addr} {u v x y : Str} (z : PSt ks H d c F0 i j H' L) (nd : ks.Nodup) (hj : j < i) (hx : ks[i]? = some x) (hy : ks[j]? = some y) (hp : (u, v) = (x, y) ∨ (u, v) = (y, x)) (h1 : F0 ≠ d) (h2 : F0 ≠ c) (hF : H F0 = none)
    (ht : H' t = some (.tup [.str u, .str v])) (hn : H t = none) : PSt ks H d c F0 i (j + 1) (upd H' F0 (.lst ((L.map fun e => V.ref e.1) ++ [.ref t]))) (L ++ [(t, u, v)]) := by
  have nF : ∀ {b : Addr} {xs : List V}, H' b = some (.tup xs) → b ≠ F0 := fun {b xs} q e => by
    rw [e, z.lst] at q
    cases q
  refine ⟨Deal.upd z.deal h1 h2, Kept.upd z.kept hF, ?_, fun e he => ?_, fun e he => ?_, ?_⟩
  · rw [upd_same, List.map_append]
    rfl
  · rcases List.mem_append.mp he with he | he
    · rw [upd_ne (nF (z.prs e he))]
      exact z.prs e he
    · rw [List.mem_singleton.mp he, upd_ne (nF ht)]
      exact ht
  · rcases List.mem_append.mp he with he | he
    · exact z.fresh e he
    · rw [List.mem_singleton.mp he]
      exact hn
  · rw [List.map_append]
    exact z.ahead.more nd hj hx hy hp
end
end L2.Und
end

section
set_option Elab.async false
set_option linter.all false
set_option maxRecDepth 100000
set_option maxHeartbeats 4000000
namespace L2.Und
open PySem PySem.Spec PyProof.Rows _root_.Und
abbrev sPairs : Stmt := topS 24
abbrev nPairs : List Str := ["_law_deal_here", "_law_kinds", "_law_form", "_law_found", "_law_at", "_law_kind", "_law_to", "_law_other", "_law_chance"]
theorem scPairs : FnScope nPairs ["_law_deal_here", "_law_kinds"] (defScope sPairs) := ⟨rfl, rfl, rfl, by decide +kernel, rfl, by decide +kernel, by decide +kernel⟩
def spPairs (K : PySem.W.Frag) : Sp := fun vs H Q _ => ∃ (d c a : Addr) (ks : List Str), vs = [.ref d, .ref a] ∧ Deal H d c ∧ H a = some (.lst (ks.map V.str)) ∧ a ≠ d ∧ a ≠ c ∧ ks.Nodup ∧ ks.length ≤ 12 ∧ (∀ k ∈ ks, PyData.strOk k = true) ∧
  ∀ (r : Addr) (L : PL) (H' : Hp), H r = none → Deal H' d c → Kept d c H H' → H' r = some (.lst (L.map fun e => V.ref e.1)) → PairsAt H' L → (∀ e ∈ L, H e.1 = none) → GoodPairs ks (L.map (·.2)) → Q (.ref r) H'
section
variable {P : Program} {w : World} {K : PySem.W.Frag} {mg : Str → Option Value} {base : Heap}
theorem okPairs {f fD fM : Addr} {fd fdD fdM : FuncData} (F : Fun K "_law_pairs" "_law_pairs" sPairs f fd)
    (GD : FnOk P w K mg base CX0 1 fD fdD ["_law_deal_here", "_law_many"] spDraw) (mD : mg "_law_draw" = some (.ref fD)) (kD : PySem.W.keepIn K (.ref fD) = true) (bD : Binds K fdD ["_law_deal_here", "_law_many"] [])
    (GM : FnOk P w K mg base CX0 2 fM fdM ["_law_deal_here", "_law_items"] (spMixed K)) (mM : mg "_law_mixed" = some (.ref fM)) (kM : PySem.W.keepIn K (.ref fM) = true) (bM : Binds K fdM ["_law_deal_here", "_law_items"] [])
    (mE : mg "enumerate" = none) (mI : mg "int" = none) : FnOk P w K mg base CX0 3 f fd ["_law_deal_here", "_law_kinds"] (spPairs K) := by
  refine F.ok scPairs (fun vs H Q E h => ?_) (fun cdv A outer s H vs Q E hr h => ?_)
  · obtain ⟨d, c, a, ks, rfl, _⟩ := h
    rfl
  have hr1 : Room 1 (A.deeper (envOfC "_law_pairs" (defScope sPairs) s.heap.objs.size f cdv)) := hr.mono (by decide)
  refine ⟨_, pss_cons (ps_par (i := 2) (j := 3) rfl scPairs.nd rfl rfl (by decide) rfl rfl (pa_cons (pe_call GD hr1 rfl mD kD bD .nil pass0 (pa_cons (pv 0) (pa_cons pe_int pa_nil))) (pa_cons (pe_lst pa_nil) pa_nil)) rfl)
    (pss_cons (ps_for PassesOwn.never rfl (pi_enum rfl mE (pa_cons (pv 1) pa_nil)) (pg_tup rfl (pgs_cons (pg_name (i := 4) scPairs.nd rfl (Or.inl rfl)) (pgs_cons (pg_name (i := 5) scPairs.nd rfl (Or.inl rfl)) pgs_nil)))
      (pss_one (ps_for PassesOwn.never rfl (pi_enum rfl mE (pa_cons (pe_slice sl_list (pv 1) po_none (po_some (pv 4))) pa_nil)) (pg_tup rfl (pgs_cons (pg_name (i := 6) scPairs.nd rfl (Or.inl rfl)) (pgs_cons (pg_name (i := 7) scPairs.nd rfl (Or.inl rfl)) pgs_nil)))
        (pss_cons (ps_set (i := 8) scPairs.nd rfl (Or.inl rfl) (pe_ix ix_list (pe_lst (pa_cons pe_int (pa_cons pe_int (pa_cons (pe_op op_mul pe_int (pe_callTy call_int1 rfl mI PyProof.Rows.Boot.«int» (pa_cons (pe_cmpR op_gt (pe_op op_sub (pv 4) (pv 6)) pe_int (nomark _)) pa_nil)))
            (pa_cons pe_int (pa_cons pe_int (pa_cons pe_int (pa_cons pe_int (pa_cons pe_int pa_nil))))))))) (pv 2) (fun _ _ => rfl)))
        (pss_one (ps_if (pt_cmpR op_lt (pe_call GD hr1 rfl mD kD bD .nil pass0 (pa_cons (pv 0) (pa_cons pe_int pa_nil))) (pv 8) (nomark _))
          (pss_one (ps_expr (pe_bm PySem.F.plainAttrs_list PySem.F.slot_list_append PySem.F.type_list_append mt_append (pv 3)
            (pa_cons (pe_ix ix_list (pe_lst (pa_cons (pe_tup (pa_cons (pv 5) (pa_cons (pv 7) pa_nil))) (pa_cons (pe_tup (pa_cons (pv 7) (pa_cons (pv 5) pa_nil))) pa_nil))) (pe_call GD hr1 rfl mD kD bD .nil pass0 (pa_cons (pv 0) (pa_cons pe_int pa_nil))) (fun _ _ => rfl)) pa_nil)))) pss_nil))))))
    (pss_one (ps_ret (pe_call GM (hr.mono (by decide)) rfl mM kM bM .nil pass0 (pa_cons (pv 0) (pa_cons (pv 3) pa_nil)))))), ?_⟩
  obtain ⟨d, c, a, ks, rfl, hD, ha, ad, ac, nd, l12, ok, q⟩ := h
  refine ⟨_, rfl, d, c, 8, rfl, hD, by decide, by decide, fun r8 H1 z0 z8 hD1 k1 => ⟨(by show 0 ≤ sizeLine; decide), fun F0 hF0 => ⟨_, _, rfl, ?_⟩⟩⟩
  have s1 := sameNew (o := .lst []) hF0
  have eF : upd H1 F0 (HO.lst []) F0 = some (.lst []) := upd_same
  have hD2 := hD1.same s1
  have k2 := k1.trans (Kept.of s1)
  have Fd := hD1.ned hF0
  have Fc := hD1.nec hF0
  have hF : H F0 = none := k1.none hD1 hF0
  have aF : a ≠ F0 := ne_of_none ha hF
  generalize upd H1 F0 (.lst []) = H2 at s1 eF hD2 k2
  refine ⟨_, rfl, a, _, rfl, SqL.of (k2 _ _ ad ac ha), for_it (walk_enum (K := K) (a := a) (xs := ks.map V.str)) (fun i σ H' => ∃ (x4 x5 x6 x7 x8 : Option V) (L : PL), σ = [some (.ref d), some (.ref a), some (.int r8), some (.ref F0), x4, x5, x6, x7, x8] ∧ PSt ks H d c F0 i 0 H' L)
    ⟨_, _, _, _, _, [], rfl, hD2, k2, eF, fun e he => (nomatch he), fun e he => (nomatch he), Ahead.zero ks⟩ (fun i σ H' _ h => by
      obtain ⟨x4, x5, x6, x7, x8, L, _, z⟩ := h
      exact SqL.of (z.kept _ _ ad ac ha)) ?_ ?_⟩
  · rintro i x σ H3 H4 hi ⟨x4, x5, x6, x7, x8, L, rfl, z⟩ ⟨T, y1, y2, rfl, hT, rfl, e1, e2⟩
    rw [List.length_map] at hi
    obtain ⟨x, hx, rfl⟩ : ∃ x, ks[i]? = some x ∧ y2 = V.str x := by
      have y3 : (ks.map V.str)[i]? = some y2 := e2
      rw [List.getElem?_map] at y3
      cases e : ks[i]? with
      | none => rw [e] at y3; cases y3
      | some z => rw [e] at y3; exact ⟨z, rfl, (Option.some.inj y3).symm⟩
    obtain rfl : y1 = V.int (i : Nat) := (Option.some.inj e1).symm
    have sT := sameNew (o := .tup [V.int (i : Nat), V.str x]) hT
    have eT : upd H3 T (HO.tup [V.int (i : Nat), V.str x]) T = some (.tup [V.int (i : Nat), V.str x]) := upd_same
    have z4 := z.same sT
    generalize upd H3 T (.tup [V.int (i : Nat), V.str x]) = H4 at sT eT z4
    refine ⟨T, _, rfl, SqT.of eT, rfl, _, _, rfl, _, _, rfl, rfl, ?_⟩
    refine ⟨_, rfl, _, rfl, _, rfl, a, _, rfl, SqL.of (z4.kept _ _ ad ac ha), fun S hS => ?_⟩
    rw [cutTake (Nat.le_of_lt hi)]
    have sS := sameNew (o := .lst ((ks.take i).map V.str)) hS
    have eS : upd H4 S (HO.lst ((ks.take i).map V.str)) S = some (.lst ((ks.take i).map V.str)) := upd_same
    have z5 := z4.same sS
    have Sd := z4.deal.ned hS
    have Sc := z4.deal.nec hS
    have SF : S ≠ F0 := fun e => by
      rw [e, z4.lst] at hS
      cases hS
    generalize upd H4 S (.lst ((ks.take i).map V.str)) = H5 at sS eS z5
    refine ⟨S, _, rfl, SqL.of eS, for_it (walk_enum (K := K) (a := S) (xs := (ks.take i).map V.str)) (fun j σ H' => ∃ (x6 x7 x8 : Option V) (L : PL), σ = [some (.ref d), some (.ref a), some (.int r8), some (.ref F0), some (.int (i : Nat)), some (.str x), x6, x7, x8] ∧
        H' S = some (.lst ((ks.take i).map V.str)) ∧ PSt ks H d c F0 i j H' L) ⟨_, _, _, L, rfl, eS, z5⟩ (fun j σ H' _ h => by
      obtain ⟨x6, x7, x8, L, _, z, _⟩ := h
      exact SqL.of z) ?_ ?_⟩
    · rintro j v σ H6 H7 hj ⟨x6, x7, x8, L, rfl, eS6, z6⟩ ⟨T2, y1, y2, rfl, hT2, rfl, e1, e2⟩
      rw [List.length_map, List.length_take, Nat.min_eq_left (Nat.le_of_lt hi)] at hj
      obtain ⟨y, hy, rfl⟩ : ∃ y, ks[j]? = some y ∧ y2 = V.str y := by
        have y3 : ((ks.take i).map V.str)[j]? = some y2 := e2
        rw [List.getElem?_map, List.getElem?_take_of_lt hj] at y3
        cases e : ks[j]? with
        | none => rw [e] at y3; cases y3
        | some z => rw [e] at y3; exact ⟨z, rfl, (Option.some.inj y3).symm⟩
      obtain rfl : y1 = V.int (j : Nat) := (Option.some.inj e1).symm
      have sT2 := sameNew (o := .tup [V.int (j : Nat), V.str y]) hT2
      have eT2 : upd H6 T2 (HO.tup [V.int (j : Nat), V.str y]) T2 = some (.tup [V.int (j : Nat), V.str y]) := upd_same
      have z7 := z6.same sT2
      have eS7 := sT2 _ _ eS6
      generalize upd H6 T2 (.tup [V.int (j : Nat), V.str y]) = H7 at sT2 eT2 z7 eS7
      refine ⟨T2, _, rfl, SqT.of eT2, rfl, _, _, rfl, _, _, rfl, rfl, ?_⟩
      refine ⟨_, rfl, _, rfl, _, _, rfl, rfl, _, _, rfl, rfl, .inr ⟨_, rfl, _, _, rfl, rfl, .inl ⟨by decide, by decide⟩, (by show 8 ≤ sizeLine; decide), fun W hW => ?_⟩⟩
      have chance : ∀ m : Int, ∃ ch, atI [V.int 0, .int 4, .int m, .int 1, .int 2, .int 2, .int 3, .int 3] r8 = some (.int ch) := fun m => by
        have : r8 = 0 ∨ r8 = 1 ∨ r8 = 2 ∨ r8 = 3 ∨ r8 = 4 ∨ r8 = 5 ∨ r8 = 6 ∨ r8 = 7 := by omega
        rcases this with rfl | rfl | rfl | rfl | rfl | rfl | rfl | rfl <;> exact ⟨_, rfl⟩
      obtain ⟨ch, hch⟩ := chance (4 * (if decide (1 < (i : Int) - (j : Int)) = true then 1 else 0))
      refine ⟨_, rfl, W, _, _, _, rfl, rfl, SqL.of upd_same, hch, ?_⟩
      have sW := sameNew (o := .lst [V.int 0, .int 4, .int (4 * (if decide (1 < (i : Int) - (j : Int)) = true then 1 else 0)), .int 1, .int 2, .int 2, .int 3, .int 3]) hW
      have z8' := z7.same sW
      have eS8 := sW _ _ eS7
      refine ⟨_, rfl, d, c, 4, rfl, z8'.deal, by decide, by decide, fun r4 H8 w0 w4 hD8 k8 => ⟨_, rfl, _, _, rfl, rfl, _, rfl, ?_⟩⟩
      have z9 := z8'.draw k8 hD8 Fd Fc
      have eS9 := k8 _ _ Sd Sc eS8
      refine ite2 (fun _ => ?_) (fun _ => ⟨_, _, _, L, rfl, eS9, z9.skip⟩)
      refine ⟨_, rfl, .inl ⟨rfl, _, SqL.of z9.lst⟩, _, rfl, _, rfl, (by show 2 ≤ sizeLine; decide), fun t1 h1 => ⟨_, rfl, _, rfl, (by show 2 ≤ sizeLine; decide), fun t2 h2 => ⟨(by show 2 ≤ sizeLine; decide), fun V2 hV2 => ?_⟩⟩⟩
      have s1 := sameNew (o := .tup [V.str x, .str y]) h1
      have f1 : upd H8 t1 (HO.tup [V.str x, .str y]) t1 = some (.tup [V.str x, .str y]) := upd_same
      generalize upd H8 t1 (HO.tup [V.str x, .str y]) = H9 at s1 f1 h2 hV2
      have s2 := sameNew (o := .tup [V.str y, .str x]) h2
      have f2 : upd H9 t2 (HO.tup [V.str y, .str x]) t2 = some (.tup [V.str y, .str x]) := upd_same
      have f1' := s2 _ _ f1
      generalize upd H9 t2 (HO.tup [V.str y, .str x]) = H10 at s2 f2 f1' hV2
      have s3 := sameNew (o := .lst [V.ref t1, .ref t2]) hV2
      have f3 : upd H10 V2 (HO.lst [V.ref t1, .ref t2]) V2 = some (.lst [V.ref t1, .ref t2]) := upd_same
      have z10 := ((z9.same s1).same s2).same s3
      have f1'' := s3 _ _ f1'
      have f2'' := s3 _ _ f2
      have eS10 := s3 _ _ (s2 _ _ (s1 _ _ eS9))
      have n1 := z9.kept.none hD8 h1
      have n2 := z9.kept.none hD8 (s1.free h2)
      have vd := ((z9.same s1).same s2).deal.ned hV2
      have vc := ((z9.same s1).same s2).deal.nec hV2
      generalize upd H10 V2 (HO.lst [V.ref t1, .ref t2]) = H11 at s3 f3 z10 f1'' f2'' eS10
      refine ⟨_, rfl, d, c, 2, rfl, z10.deal, by decide, by decide, fun r2 H12 u0 u2 hD12 k12 => ?_⟩
      have z12 := z10.draw k12 hD12 Fd Fc
      have eS12 := k12 _ _ Sd Sc eS10
      have f3' := k12 _ _ vd vc f3
      have t1' := PairsAt.kept (L := [(t1, x, y)]) (fun e he => by rw [List.mem_singleton.mp he]; exact f1'') z10.deal k12 _ List.mem_cons_self
      have t2' := PairsAt.kept (L := [(t2, y, x)]) (fun e he => by rw [List.mem_singleton.mp he]; exact f2'') z10.deal k12 _ List.mem_cons_self
      have lL : L.length < 1000 := by
        have a1 := z12.ahead.len
        rw [List.length_map] at a1
        have a2 := tri_le (n := i) (by omega)
        omega
      have r01 : r2 = 0 ∨ r2 = 1 := by omega
      rcases r01 with rfl | rfl
      · refine ⟨V2, _, _, .ref t1, rfl, rfl, SqL.of f3', rfl, F0, _, _, rfl, rfl, z12.lst, by rw [List.length_map]; exact small1000 (by omega), ?_⟩
        exact ⟨_, _, _, _, rfl, by rw [upd_ne SF]; exact eS12, z12.more nd hj hx hy (.inl rfl) Fd Fc hF t1' n1⟩
      · refine ⟨V2, _, _, .ref t2, rfl, rfl, SqL.of f3', rfl, F0, _, _, rfl, rfl, z12.lst, by rw [List.length_map]; exact small1000 (by omega), ?_⟩
        exact ⟨_, _, _, _, rfl, by rw [upd_ne SF]; exact eS12, z12.more nd hj hx hy (.inr rfl) Fd Fc hF t2' n2⟩
    · rintro σ H6 ⟨x6, x7, x8, L, rfl, eS6, z6⟩
      rw [List.length_map, List.length_take, Nat.min_eq_left (Nat.le_of_lt hi)] at z6
      exact ⟨_, _, _, _, _, L, rfl, z6.next⟩
  · rintro σ H3 ⟨x4, x5, x6, x7, x8, L, rfl, z⟩
    rw [List.length_map] at z
    have g := z.ahead.good nd
    have okL : ∀ e ∈ L, PyData.strOk e.2.1 = true ∧ PyData.strOk e.2.2 = true := fun e he => by
      have m := g.mem e.2 (List.mem_map.mpr ⟨e, he, rfl⟩)
      exact ⟨ok _ m.1, ok _ m.2.1⟩
    have le : L.length ≤ 66 := by
      have := g.len
      rw [List.length_map] at this
      exact Nat.le_trans this (tri_le l12)
    refine ⟨_, rfl, _, rfl, d, c, F0, _, rfl, z.deal, .inl (SqL.of z.lst), z.prs.off z.deal okL, by rw [List.length_map]; omega, fun r ys H4 r1 hD4 k4 e p => ?_⟩
    obtain ⟨L', rfl, pL⟩ := permMap p
    refine q r L' H4 (z.kept.none z.deal r1) hD4 (z.kept.trans k4) e (fun e he => ?_) (fun e he => z.fresh e (pL.mem_iff.mp he)) (g.perm (pL.map _))
    exact (z.prs.kept z.deal k4) e (pL.mem_iff.mp he)
end
end L2.Und
end

section
set_option Elab.async false
set_option linter.all false
set_option maxRecDepth 100000
set_option maxHeartbeats 4000000
namespace L2.Und
open PySem PySem.Spec PyProof.Rows _root_.Und
open PySem.W (findIn keepIn typeIn subIn)
/-! ### raise of an own error with its __init__ -/
/-- what such an __init__ keeps: the error's own dict is new, with these fields -/
def spIni (C : Addr) (n : Nat) (fs : List V → List (Str × V)) : Sp := fun vs H Q _ => ∃ (a : Addr) (ys : List V), vs = .ref a :: ys ∧ ys.length = n ∧ H a = some (exo a C none) ∧
  ∀ (dx : Addr) (H' : Hp), H dx = none → dx ≠ a → H' a = some (exo a C (some dx)) → H' dx = some (exd dx (fs ys)) → (∀ b o, b ≠ a → H b = some o → H' b = some o) → Q .non H'
def fld1 (x : Str) : List V → List (Str × V) := fun ys => [(x, ys.getD 0 .non)]
def fld2 (x y : Str) : List V → List (Str × V) := fun ys => [(y, ys.getD 1 .non), (x, ys.getD 0 .non)]
section
variable {P : Program} {w : World} {K : PySem.W.Frag} {mg : Str → Option Value} {base : Heap} {f C : Addr} {fd : FuncData} {qual x y : Str} {st : Stmt} {p1 p2 p3 p4 q1 q2 q3 q4 : Pos}
theorem visOf {N ps : List Str} {sc : Scope} (S : FnScope N ps sc) {x : Str} (h : x ∈ ps) : Vis sc x := (S.par x h).elim .inl (fun z => .inr (.inl z))
theorem okIni1 (F : Fun K "__init__" qual st f fd) (S : FnScope ["self", x] ["self", x] (defScope st)) (hb : defBody st = [.Assign [.Attribute (.Name "self" p1) x p2] (.Name x p3) p4])
    (T : ErrC K C) (no : findIn K (.ref C) x = some none) (x1 : (x == ("__debug__" : Str)) = false) (x2 : (x == ("__classdict__" : Str)) = false) :
    FnOk P w K mg base CX0 1 f fd ["self", x] (spIni C 1 (fld1 x)) := by
  refine F.ok S (fun vs H Q E h => ?_) (fun cdv A outer s H vs Q E hr h => ?_)
  · obtain ⟨a, ys, rfl, h1, _⟩ := h
    simp [h1]
  rw [hb]
  refine ⟨_, pss_one (psPut (pv 0 rfl (visOf S (by simp))) (pv 1 rfl (visOf S (by simp)) x1 x2)), ?_⟩
  obtain ⟨a, ys, rfl, h1, h2, q⟩ := h
  match ys, h1 with
  | [v], _ =>
    refine ⟨_, rfl, _, rfl, a, C, rfl, T, no, .inl ⟨h2, fun dx n ne => ?_⟩⟩
    refine q dx _ n ne upd_same ?_ fun b o hb e => ?_
    · rw [upd_ne ne]
      exact upd_same
    · rw [upd_ne hb, upd_ne (ne_of_none e n)]
      exact e
theorem okIni2 (F : Fun K "__init__" qual st f fd) (S : FnScope ["self", x, y] ["self", x, y] (defScope st))
    (hb : defBody st = [.Assign [.Attribute (.Name "self" p1) x p2] (.Name x p3) p4, .Assign [.Attribute (.Name "self" q1) y q2] (.Name y q3) q4])
    (T : ErrC K C) (no : findIn K (.ref C) x = some none) (no2 : findIn K (.ref C) y = some none) (x1 : (x == ("__debug__" : Str)) = false) (x2 : (x == ("__classdict__" : Str)) = false) (y1 : (y == ("__debug__" : Str)) = false) (y2 : (y == ("__classdict__" : Str)) = false) :
    FnOk P w K mg base CX0 1 f fd ["self", x, y] (spIni C 2 (fld2 x y)) := by
  refine F.ok S (fun vs H Q E h => ?_) (fun cdv A outer s H vs Q E hr h => ?_)
  · obtain ⟨a, ys, rfl, h1, _⟩ := h
    simp [h1]
  rw [hb]
  refine ⟨_, pss_cons (psPut (pv 0 rfl (visOf S (by simp))) (pv 1 rfl (visOf S (by simp)) x1 x2)) (pss_one (psPut (pv 0 rfl (visOf S (by simp))) (pv 2 rfl (visOf S (by simp)) y1 y2))), ?_⟩
  obtain ⟨a, ys, rfl, h1, h2, q⟩ := h
  match ys, h1 with
  | [v, u], _ =>
    refine ⟨_, rfl, _, rfl, a, C, rfl, T, no, .inl ⟨h2, fun dx n ne => ?_⟩⟩
    have e1 : upd (upd H dx (exd dx [(x, v)])) a (exo a C (some dx)) a = some (exo a C (some dx)) := upd_same
    have e2 : upd (upd H dx (exd dx [(x, v)])) a (exo a C (some dx)) dx = some (exd dx [(x, v)]) := by rw [upd_ne ne]; exact upd_same
    refine ⟨_, rfl, _, rfl, a, C, rfl, T, no2, .inr ⟨dx, _, e1, e2, (by show 1 ≤ 900; decide), ?_⟩⟩
    refine q dx _ n ne ?_ upd_same fun b o hb e => ?_
    · rw [upd_ne ne.symm]
      exact e1
    · rw [upd_ne (ne_of_none e n), upd_ne hb, upd_ne (ne_of_none e n)]
      exact e
end
/-- the making of the error, for a raise -/
def tMkE (C : Addr) (n : Nat) (fs : List V → List (Str × V)) (t : TA) : St → Hp → XK → Prop := fun σ H Q => t σ H fun vs H1 => vs.length = n ∧ ∀ (d : Addr) (H2 : Hp), H1 d = none → Same H1 H2 → H2 d = some (.xd (fs vs)) → Q (.ref C) (some d) H2
section
variable {X : Cx} {CX : CXT} {k n : Nat} {fI C : Addr} {fd : FuncData} {ps : List Str} {fs : List V → List (Str × V)} {x : Str} {p pos : Pos} {e : Expr} {es : List Expr} {t : TA}
theorem pmkErr (T : ErrC X.K C) (tyC : typeIn X.K (.ref C) = some (.type "type")) (iC : findIn X.K (.ref C) "__init__" = some (some (.ref fI))) (tI : typeIn X.K (.ref fI) = some (.type "function"))
    (F : FnOk X.prog X.w X.K X.mg X.base CX0 k fI fd ps (spIni C n fs)) (hr : Room (k + 1) X.A) (hb : Binds X.K fd ps []) (hn : n ≤ 1000)
    (hg : Gl X x) (hm : X.mg x = some (.ref C)) (ha : PA X (e :: es) t) (hdb : (x == ("__debug__" : Str)) = false := by decide)
    (he : starEach (e :: es) X.env = (false, eval e X.env) :: starEach es X.env := by rfl) (hpl : (backTo pos (starEach es X.env)).any (·.1) = false := by rfl) :
    PMk X (.Call (.Name x p) (e :: es) [] pos) (tMkE C n fs t) := by
  intro pins s σ H Q I h
  obtain ⟨B, newId, initId, bmB, nm, q, N, bs, bm, sn, sub, ab, col, dd, k0, k1, k2, k3, k5, FB, U, O, hC⟩ := T.cls
  refine wpAny_Call_Name_kw (ld_glob I hg hm ?_ hdb)
  refine PySem.W.callWith_K (h₀ := X.base) I.ok.mod.kin T.keep (thn (ha.run pos pins s σ H _ I h) fun us s1 ⟨vs, H1, I1, r1, l1, q1⟩ => ⟨I1.kIn, ?_⟩) he hpl
  show wpAny _ _ (call (.ref C) us) _ _ _
  obtain ⟨hp, gs, dr, tk, os⟩ := s1
  have big : hp.objs.size ≤ hp.objs.size + 1 := Nat.le_succ _
  have nn : H1 (hp.objs.size + 1) = none := I1.hok.fresh big
  have up : ∀ b o, hp.get? b = some o → ((hp.push (PySem.W.kdv_tup us)).push (PySem.HandSPX.excO C hp.objs.size)).get? b = some o := fun b o z => Heap.get?_push_of_some _ (Heap.get?_push_of_some _ z)
  have laid : ((hp.push (PySem.W.kdv_tup us)).push (PySem.HandSPX.excO C hp.objs.size)).get? (hp.objs.size + 1) = some (PySem.HandSPX.excO C hp.objs.size) := by heap_get
  have I2 : Inv X pins σ (upd H1 (hp.objs.size + 1) (exo (hp.objs.size + 1) C none)) ⟨(hp.push (PySem.W.kdv_tup us)).push (PySem.HandSPX.excO C hp.objs.size), gs, dr, tk, os⟩ :=
    I1.laid (t' := tk) (a := hp.objs.size + 1) up big (exo_ok laid)
  obtain ⟨a, ea⟩ : ∃ a, a = hp.objs.size + 1 := ⟨_, rfl⟩
  rw [← ea] at nn laid I2
  have sp : spIni C n fs (.ref a :: vs) (upd H1 a (exo a C none)) (fun v H2 => v = .non ∧ ∃ (d : Addr), H2 a = some (exo a C (some d)) ∧ H2 d = some (exd d (fs vs)) ∧ H1 d = none ∧ Q (.ref C) (some d) (upd (del H2 a) d (.xd (fs vs)))) (fun _ _ _ => False) := by
    refine ⟨a, vs, rfl, l1, upd_same, fun dx H' n1 ne g1 g2 kp => ⟨rfl, dx, g1, g2, ?_, ?_⟩⟩
    · rw [upd_ne ne] at n1
      exact n1
    · rw [upd_ne ne] at n1
      refine q1 dx _ n1 (fun b o z => ?_) upd_same
      have ba : b ≠ a := fun y => by rw [y, nn] at z; cases z
      rw [upd_ne (ne_of_none z n1), del_ne ba]
      exact kp b o ba (by rw [upd_ne ba]; exact z)
  have r2 : Vals (V.ref a :: vs) (Value.ref a :: us) := .cons rfl r1
  have e0 : us.length = n := r1.length.symm.trans l1
  have hz : us.length ≤ sizeLine := by
    rw [e0, sizeLine_eq]
    omega
  have hl : (Value.ref a :: us ++ ([] : List Value)).length = ps.length := by
    have z := F.len _ _ _ _ sp
    rw [List.append_nil, ← z]
    exact r2.length.symm
  have hbd := hb _ (Value.ref a :: us) I2.kIn hl
  rw [List.append_nil] at hbd
  refine wpAny_call (madeBy (kw := []) FB U (I1.kIn _ _ hC) hz (PySem.W.looks_findIn I1.kIn iC) (fun self => PySem.W.bind_fn I1.kIn self tI) ?_)
  rw [← ea]
  refine codeAny_mono (F.run _ X.stack _ _ ⟨Value.ref a :: us, []⟩ (Value.ref a :: us) _ _ (fun _ _ _ => False) (hr.make C us []) (I2.env0.make C us []) hbd r2 sp) fun r s' z => ?_
  cases r with
  | error er => exact pass0 (X := X) pins σ _ _ er s' I2 z
  | ok fl =>
    cases fl with
    | ret u =>
      obtain ⟨v, H2, os2, bare2, un2, hok2, rv, ev, d, g1, g2, g3, q2⟩ := z
      subst ev
      obtain ⟨h2, gg2, d2, t2, os'⟩ := s'
      exact ⟨rv, mk_end (raises_own T.exc tyC) I1 (by rw [ea]; exact big) up un2 hok2 os2 bare2 g1 g2 g3 q2⟩
    | next => exact z.elim
    | brk => exact z.elim
    | cont => exact z.elim
end
end L2.Und
end

section
set_option Elab.async false
set_option linter.all false
set_option maxRecDepth 100000
set_option maxHeartbeats 4000000
namespace L2.Und
open PySem PySem.Spec PyProof.Rows _root_.Und
/-! ### is_name of the program -/
abbrev sIsName : Stmt := topS 8
theorem scIsName : FnScope ["text", "letter"] ["text"] (defScope sIsName) := ⟨rfl, rfl, rfl, by decide +kernel, rfl, by decide +kernel, by decide +kernel⟩
def spIsName : Sp := fun vs H Q _ => ∃ z : Str, vs = [.str z] ∧ z.length ≤ 1000 ∧ ∀ H', Same H H' → Q (.bl (IsName z)) H'
theorem ltOne (a b : Nat) : decide (([a] : List Nat) < [b]) = decide (a < b) := by
  by_cases h : a < b
  · rw [decide_eq_true h, decide_eq_true]
    exact List.Lex.rel h
  · rw [decide_eq_false h, decide_eq_false]
    intro z
    cases z with
    | rel r => exact h r
    | cons r => cases r
def isLet (c : Nat) : Bool := decide (97 ≤ c) && decide (c ≤ 122)
section
variable {P : Program} {w : World} {K : PySem.W.Frag} {mg : Str → Option Value} {base : Heap}
theorem okIsName {f : Addr} {fd : FuncData} {t : Tok} (F : Fun K "is_name" "is_name" sIsName f fd) (mL : mg "len" = none) (mA : mg "all" = none) (mM : mg "MOST_LETTERS" = some (.int 6 t)) :
    FnOk P w K mg base CX0 1 f fd ["text"] spIsName := by
  refine F.ok scIsName (fun vs H Q E h => ?_) (fun cdv A outer s H vs Q E hr h => ?_)
  · obtain ⟨z, rfl, _⟩ := h
    rfl
  refine ⟨_, pss_one (ps_ret (pe_and (pe_chain op_le op_le pe_int (pe_callB call_len_str rfl mL PySem.boot_len (pa_cons (pv 0) pa_nil)) (pe_glob (v := .int 6) rfl mM ⟨t, rfl⟩))
    (pe_one (pe_callB (cr_all (by rfl)) (by rfl) mA PyProof.Rows.boot_all (pa_cons (pe_lc (own := [("letter", 1)]) (g := gName 1) (tt := tYes) rfl scIsName.nd (pi_str (pv 0)) (blkOk_by (N := ["text", "letter"]) (sc := defScope sIsName) (by decide +kernel))
      (fun _ _ _ _ _ => pg_name (i := 1) scIsName.nd rfl (Or.inl rfl)) (fun _ _ _ _ _ => pts_nil)
      (fun _ _ _ _ _ => pe_chain op_le_str op_le_str pe_str (pv 1) pe_str)) pa_nil))))), ?_⟩
  obtain ⟨z, rfl, hz, q⟩ := h
  have zl : z.length = z.cps.size := rfl
  refine ⟨_, rfl, z, rfl, fits hz, _, _, rfl, rfl, ?_⟩
  have nm : IsName z = (decide (1 ≤ z.cps.size) && decide (z.cps.size ≤ 6) && z.cps.all isLet) := rfl
  refine ⟨_, rfl, ?_⟩
  refine ite2 (fun a => ?_) (fun a => ?_)
  · have a0 : (1 : Int) ≤ (z.length : Int) := of_decide_eq_true a
    have a1 : decide (1 ≤ z.cps.size) = true := decide_eq_true (by omega)
    refine ⟨_, _, rfl, rfl, _, rfl, ?_⟩
    refine ite2 (fun b => ?_) (fun b => ?_)
    · have b0 : (z.length : Int) ≤ 6 := of_decide_eq_true b
      have b1 : decide (z.cps.size ≤ 6) = true := decide_eq_true (by omega)
      refine ⟨_, rfl, z, rfl, fun D hD => ?_⟩
      have hN := sameNew (o := .lst []) hD
      refine lc_it walk_str (fun i H' => Same H H' ∧ H' D = some (.lst (((z.cps.toList.take i).map isLet).map V.bl))) ⟨hN, upd_same⟩ (fun _ _ _ _ => True.intro) ?_ ?_
      · rintro i x H1 H2 hi ⟨g1, g2⟩ ⟨rfl, c, hc, rfl⟩
        have hc' : z.cps.toList[i]? = some c := by rw [Array.getElem?_toList]; exact hc
        have fin : ∀ y : Bool, y = isLet c → ∃ acc, H2 D = some (.lst acc) ∧ acc.length < sizeLine ∧ (Same H (upd H2 D (.lst (acc ++ [V.bl y]))) ∧ upd H2 D (.lst (acc ++ [V.bl y])) D = some (.lst (((z.cps.toList.take (i + 1)).map isLet).map V.bl))) := by
          rintro y rfl
          refine ⟨_, g2, ?_, Same.upd g1 hD, ?_⟩
          · rw [List.length_map, List.length_map, List.length_take]
            exact small1000 (by omega)
          · rw [upd_same, List.take_succ, hc', List.map_append, List.map_append]
            rfl
        have la : ("a" : Str).cps.toList = [97] := by decide +kernel
        have lz : ("z" : Str).cps.toList = [122] := by decide +kernel
        refine ⟨rfl, _, rfl, _, _, rfl, rfl, _, rfl, ?_⟩
        have e1 : (!decide ((⟨#[c]⟩ : Str).cps.toList < ("a" : Str).cps.toList)) = decide (97 ≤ c) := by
          rw [la]
          show (!decide (([c] : List Nat) < [97])) = _
          rw [ltOne]
          by_cases h : c < 97
          · rw [decide_eq_true h, decide_eq_false (by omega)]; rfl
          · rw [decide_eq_false h, decide_eq_true (by omega)]; rfl
        have e2 : (!decide (("z" : Str).cps.toList < (⟨#[c]⟩ : Str).cps.toList)) = decide (c ≤ 122) := by
          rw [lz]
          show (!decide (([122] : List Nat) < [c])) = _
          rw [ltOne]
          by_cases h : 122 < c
          · rw [decide_eq_true h, decide_eq_false (by omega)]; rfl
          · rw [decide_eq_false h, decide_eq_true (by omega)]; rfl
        refine ite2 (fun k => ?_) (fun k => ?_)
        · refine ⟨_, _, rfl, rfl, fin _ ?_⟩
          rw [e1] at k
          unfold isLet
          rw [e2, k, Bool.true_and]
        · refine fin _ ?_
          rw [e1] at k
          have k : decide (97 ≤ c) = false := by simpa using k
          unfold isLet
          rw [k, Bool.false_and]
      · rintro H2 ⟨g1, g2⟩
        rw [show z.cps.size = z.cps.toList.length from (Array.length_toList).symm, List.take_length] at g2
        refine ⟨D, _, rfl, SqL.of g2, ?_⟩
        have e : (z.cps.toList.map isLet).all id = IsName z := by
          rw [nm, a1, b1, Bool.true_and, Bool.true_and, List.all_map, ← Array.all_toList]
          rfl
        rw [e]
        exact q H2 g1
    · have e : IsName z = false := by
        have b0 : ¬ ((z.length : Int) ≤ 6) := fun y => b (decide_eq_true y)
        rw [nm, decide_eq_false (by omega : ¬ z.cps.size ≤ 6), Bool.and_false, Bool.false_and]
      have q0 := q H (Same.refl H)
      rw [e] at q0
      exact q0
  · have e : IsName z = false := by
      have b0 : ¬ ((1 : Int) ≤ (z.length : Int)) := fun y => a (decide_eq_true y)
      rw [nm, decide_eq_false (by omega : ¬ 1 ≤ z.cps.size), Bool.false_and, Bool.false_and]
    have q0 := q H (Same.refl H)
    rw [e] at q0
    exact ⟨_, rfl, iteF q0⟩
end
end L2.Und
end

section
set_option Elab.async false
set_option linter.all false
set_option maxRecDepth 100000
set_option maxHeartbeats 4000000
namespace L2.KS
open PySem PySem.Spec PyProof.Rows
/-! Sets of tuples whose items are ints or texts (the library has them of ints alone): the search, adding, the larger table. -/
abbrev IsK (P : Program) (w : World) (h : Heap) (k : List Key) (a : Addr) : Prop := IsTupleKey (mixKind P w) h k a
abbrev kh (P : Program) (w : World) (k : List Key) : Int := tupleKeyHash (mixKind P w) k
/-- the c-th step of the way of a hash -/
abbrev cur (t : SetTable) (h : Int) (c : Nat) : SetTable.Probe := nth t.mask (runAt t.mask (SetTable.bits h % (t.mask + 1)) (SetTable.bits h)) c
section
variable {P : Program} {w : World} {A : Around} {E : Value → Shared → Prop} {s : Shared}
theorem flatItem {k : List Key} {vs : List Value} (h : ItemsAre (mixKind P w) k vs) : ∀ v ∈ vs, (∃ i t, v = Value.int i t) ∨ ∃ x t, v = Value.str x t := by
  induction h with
  | nil => exact fun v hv => nomatch hv
  | cons h1 _ ih =>
    intro v hv
    rcases List.mem_cons.mp hv with rfl | hv
    · rcases keyIs_shape h1 with ⟨i, t, _, e⟩ | ⟨x, t, _, e⟩
      · exact .inl ⟨i, t, e⟩
      · exact .inr ⟨x, t, e⟩
    · exact ih v hv
theorem noClass {v : Value} (h : (∃ i t, v = Value.int i t) ∨ ∃ x t, v = Value.str x t) (n : Nat) : ofAClassStatement n v = pure false := by
  rcases h with ⟨i, t, rfl⟩ | ⟨x, t, rfl⟩ <;> cases n <;> rfl
theorem itemHash {v : Value} (h : (∃ i t, v = Value.int i t) ∨ ∃ x t, v = Value.str x t) (n : Nat) : ∃ b, hashByValue n v = pure b := by
  rcases h with ⟨i, t, rfl⟩ | ⟨x, t, rfl⟩ <;> cases n <;> exact ⟨_, rfl⟩
abbrev Flat (v : Value) : Prop := (∃ i t, v = Value.int i t) ∨ ∃ x t, v = Value.str x t
theorem clsK {k : List Key} {b : Addr} {Q : Bool → Shared → Prop} (hk : IsK P w s.heap k b) (h : Q false s) : wpAny (model P w) A (ofAClassStatement 8 (.ref b)) Q E s := by
  have ty := hk.typeIs
  obtain ⟨o, its, n, ho, _, hd, hi⟩ := hk
  have fl := flatItem hi
  unfold ofAClassStatement
  refine wpAny_bind (wpAny_typeOf ty ?_)
  have e : (("tuple" : String) == "tuple") = true := by decide
  simp only [e, if_true, Bool.not_true, Bool.false_eq_true, if_false]
  try refine wpAny_bind (wpAny_pure ?_)
  try simp only [Bool.not_true, Bool.false_eq_true, if_false]
  show wpAny _ _ (seqItems? (.ref b) >>= _) _ _ s
  refine wpAny_bind (wpAny_seqItems ho hd (wpAny_bind ?_))
  show wpAny _ _ (forIn its _ _) _ _ s
  rw [← Array.forIn_toList]
  refine wpAny_forIn_list _ (fun rest r s' => r.1 = none ∧ s' = s ∧ ∀ v ∈ rest, Flat v) _ (fun v rest r s' g => ?_) (fun r s' g => ?_) _ _ ⟨rfl, rfl, fl⟩
  · obtain ⟨g1, rfl, g3⟩ := g
    rw [noClass (g3 v List.mem_cons_self)]
    refine wpAny_bind (wpAny_pure ?_)
    simp only [Bool.false_eq_true, if_false]
    exact wpAny_pure ⟨rfl, rfl, fun u hu => g3 u (List.mem_cons_of_mem _ hu)⟩
  · obtain ⟨g1, rfl, _⟩ := g
    obtain ⟨r1, r2⟩ := r
    cases (show r1 = none from g1)
    exact wpAny_pure h
theorem hashK {k : List Key} {b : Addr} {Q : Bool → Shared → Prop} (hk : IsK P w s.heap k b) (h : ∀ y, Q y s) : wpAny (model P w) A (hashByValue 8 (.ref b)) Q E s := by
  have ty := hk.typeIs
  obtain ⟨o, its, n, ho, _, hd, hi⟩ := hk
  have fl := flatItem hi
  unfold hashByValue
  refine wpAny_bind (wpAny_specialOf ty F.slot_tuple_hash.lookup ?_)
  show wpAny _ _ (seqItems? (.ref b) >>= _) _ _ s
  refine wpAny_bind (wpAny_seqItems ho hd (wpAny_bind ?_))
  show wpAny _ _ (forIn its _ _) _ _ s
  rw [← Array.forIn_toList]
  refine wpAny_forIn_list _ (fun rest r s' => s' = s ∧ ∀ v ∈ rest, Flat v) _ (fun v rest r s' g => ?_) (fun r s' g => ?_) _ _ ⟨rfl, fl⟩
  · obtain ⟨rfl, g3⟩ := g
    obtain ⟨y, e⟩ := itemHash (g3 v List.mem_cons_self) 7
    rw [e]
    refine wpAny_bind (wpAny_pure ?_)
    cases y with
    | true =>
      simp only [Bool.not_true, Bool.false_eq_true, if_false]
      exact wpAny_pure ⟨rfl, fun u hu => g3 u (List.mem_cons_of_mem _ hu)⟩
    | false =>
      simp only [Bool.not_false, if_true]
      exact wpAny_pure (wpAny_pure (h _))
  · cases g.1
    obtain ⟨r1, r2⟩ := r
    cases r1 with
    | none => exact wpAny_pure (h _)
    | some y => exact wpAny_pure (h _)
theorem unseenK {k : List Key} {b : Addr} {Q : Bool → Shared → Prop} (hk : IsK P w s.heap k b) {ys : List Value} (hy : ∀ y ∈ ys, ∃ k' c, y = Value.ref c ∧ IsK P w s.heap k' c) (h : Q false s) :
    wpAny (model P w) A (searchCouldBeSeen (.ref b) ys) Q E s := by
  unfold searchCouldBeSeen
  refine wpAny_bind (wpAny_forIn_list _ (fun rest r s' => r.1 = none ∧ s' = s ∧ ∀ y ∈ rest, ∃ k' c, y = Value.ref c ∧ IsK P w s.heap k' c) _ (fun v rest r s' g => ?_) (fun r s' g => ?_) _ _ ⟨rfl, rfl, hy⟩)
  · obtain ⟨g1, rfl, g3⟩ := g
    obtain ⟨k', c, rfl, hc⟩ := g3 v List.mem_cons_self
    have go : ∀ y ∈ rest, ∃ k' c, y = Value.ref c ∧ IsK P w s'.heap k' c := fun u hu => g3 u (List.mem_cons_of_mem _ hu)
    dsimp only
    by_cases hv : (b == c || (carriedByValue (.ref b) && carriedByValue (.ref c))) = true
    · exact wp_if_pos hv (wpAny_pure ⟨rfl, rfl, go⟩)
    · refine wp_if_neg hv (wpAny_bind (wpAny_eqIsQuiet_tuple hk ?_))
      simp only [Bool.not_true, Bool.false_eq_true, if_false]
      refine wpAny_bind (wpAny_eqIsQuiet_tuple hc ?_)
      simp only [Bool.not_true, Bool.false_eq_true, if_false]
      refine wpAny_bind (clsK hk ?_)
      simp only [Bool.false_eq_true, if_false]
      refine wpAny_bind (clsK hc ?_)
      simp only [Bool.false_eq_true, if_false]
      exact wpAny_pure ⟨rfl, rfl, go⟩
  · obtain ⟨g1, rfl, _⟩ := g
    obtain ⟨r1, r2⟩ := r
    cases (show r1 = none from g1)
    exact wpAny_pure h
/-! ### the set -/
abbrev KL := List (Addr × List Key)
def rowsK (P : Program) (w : World) (L : KL) : List (Int × Value) := L.map fun p => (kh P w p.2, Value.ref p.1)
structure KSet (P : Program) (w : World) (h : Heap) (a : Addr) (L : KL) (es : Array (Int × Value)) (ep : Nat) (t : SetTable) : Prop where
  ob : ∃ o, h.get? a = some o ∧ o.ExactSet ∧ o.data = .set es ep t
  rows : es.toList = rowsK P w L
  tab : TabOk t (L.map fun p => kh P w p.2)
  nd : (L.map (·.2)).Nodup
  tup : ∀ p ∈ L, IsK P w h p.2 p.1
  led : w.params.followText "set-order" = true ∨ t.led = true
  room : L.length * 5 < t.mask * 3
variable {a : Addr} {L : KL} {es : Array (Int × Value)} {ep : Nat} {t : SetTable}
theorem rows_size (h : es.toList = rowsK P w L) : es.size = L.length := by
  have e := congrArg List.length h
  rwa [Array.length_toList, show (rowsK P w L).length = L.length from List.length_map _] at e
theorem KSet.fit (R : KSet P w s.heap a L es ep t) : t.fits es.size = true := by
  have h1 : t.place.size = L.length := R.tab.sz.trans (List.length_map _)
  have h2 := rows_size R.rows
  have h3 := R.room
  unfold SetTable.fits SetTable.fill
  rw [R.tab.dm, Bool.and_eq_true, beq_iff_eq, decide_eq_true_eq]
  refine ⟨h1.trans h2.symm, ?_⟩
  show t.place.size + 0 ≤ t.mask
  omega
theorem KSet.ent (R : KSet P w s.heap a L es ep t) {i : Nat} {p : Addr × List Key} (h : L[i]? = some p) : es[i]? = some (kh P w p.2, Value.ref p.1) := by
  rw [← Array.getElem?_toList, R.rows, rowsK, List.getElem?_map, h]
  rfl
theorem cur_add (t : SetTable) (h : Int) (c q : Nat) : nth t.mask (cur t h c) q = cur t h (c + q) := (nth_add t.mask c _ q).symm
theorem cur_j (t : SetTable) (h : Int) (c q : Nat) : (nth t.mask (cur t h c) q).j = way t.mask h (c + q) := congrArg SetTable.Probe.j (cur_add t h c q)
theorem cur_dummy (t : SetTable) (h : Int) (c : Nat) : (cur t h c).dummy = none := by
  have key : ∀ (n : Nat) (p : SetTable.Probe), p.dummy = none → (nth t.mask p n).dummy = none := fun n => by
    induction n with
    | zero => exact fun p z => z
    | succ n ih => exact fun p z => ih (adv t.mask p) (by unfold adv; split <;> exact z)
  exact key c _ rfl
/-- what a search for k asks of the way: K is the first empty place -/
structure Seek (P : Program) (w : World) (t : SetTable) (k : List Key) (K : Nat) : Prop where
  few : K < 10 * SetTable.turns t.mask
  out : way t.mask (kh P w k) K ∉ t.place.toList
  bef : ∀ c, c < K → way t.mask (kh P w k) c ∈ t.place.toList
theorem seekK (R : KSet P w s.heap a L es ep t) {x : Addr} {k : List Key} (hx : IsK P w s.heap k x) (hu : A.units < cLine) {K : Nat} (W : Seek P w t k K) {Q : SetFound → Shared → Prop}
    (hin : k ∈ L.map (·.2) → Q (.there none) s) (hout : k ∉ L.map (·.2) → Q (.free (way t.mask (kh P w k) K) false) s) :
    ∀ (f c : Nat) (st : Option SetTable.Probe), st.getD (t.probeStart (kh P w k)) = cur t (kh P w k) c → c ≤ K → K - c < f →
      (∀ (i : Nat) p, L[i]? = some p → p.2 = k → ∃ c', c ≤ c' ∧ c' < K ∧ t.place.toList[i]? = some (way t.mask (kh P w k) c')) →
      wpAny (model P w) A (setSearchFrom a (.ref x) (kh P w k) true f st) Q E s
  | 0, _, _, _, _, hf, _ => absurd hf (Nat.not_lt_zero _)
  | f + 1, c, st, hst, hc, hf, hre => by
    obtain ⟨o, ho, hex, hd⟩ := R.ob
    have gw : ¬ t.gaveWay = true := by
      unfold SetTable.gaveWay
      rw [mask_odd R.tab.mok]
      decide
    have hashAt : ∀ (i : Nat) p, L[i]? = some p → (es[i]?.map (·.1)).getD 0 = kh P w p.2 := fun i p hp => by
      rw [R.ent hp]
      rfl
    rw [setSearchFrom_succ]
    refine wpAny_bind (wpAny_setState_of ho hd R.fit ?_)
    dsimp only
    refine wp_if_neg gw ?_
    try refine wpAny_bind (wpAny_pure ?_)
    rw [hst]
    rcases go_spec t R.tab.ris R.tab.dm (fun i => (es[i]?.map (·.1)).getD 0) (kh P w k) (10 * SetTable.turns t.mask) (K - c) _ (cur_dummy t (kh P w k) c) (by have := W.few; omega)
      (fun q hq => by rw [cur_j]; exact W.bef (c + q) (by omega)) (by rw [cur_j, show c + (K - c) = K by omega]; exact W.out) with ⟨q, i, hq, hi, hh, hno, hpr⟩ | ⟨hno, hpr⟩
    · -- a candidate
      rw [cur_j] at hi hpr
      rw [cur_add] at hpr
      have hpr : t.probe (fun i => (es[i]?.map (·.1)).getD 0) (kh P w k) (cur t (kh P w k) c) = _ := hpr
      rw [hpr]
      dsimp only
      have il : i < L.length := by
        have h1 := (List.getElem?_eq_some_iff.mp hi).1
        have h2 : t.place.size = L.length := R.tab.sz.trans (List.length_map _)
        rw [Array.length_toList] at h1
        omega
      obtain ⟨p, hp⟩ : ∃ p, L[i]? = some p := ⟨_, List.getElem?_eq_getElem il⟩
      have pm := List.mem_of_getElem? hp
      have tail : wpAny (model P w) A (searchRest a (.ref x) (kh P w k) true f es t (way t.mask (kh P w k) (c + q)) i (cur t (kh P w k) (c + (q + 1)))) Q E s := by
        unfold searchRest
        rw [R.ent hp]
        dsimp only
        refine wpAny_bind (wpAny_holding (wpAny_eqBool_tuple hu (R.tup p pm) hx (wpAny_bind (wpAny_setState_of ho hd R.fit ?_))))
        dsimp only
        by_cases same : p.2 = k
        · exact wp_if_pos (by simp [same]) (wpAny_pure (hin (List.mem_map.mpr ⟨p, pm, same⟩)))
        refine wp_if_neg (by simp [same]) ?_
        try refine wpAny_bind (wpAny_pure ?_)
        have live : t.slot (way t.mask (kh P w k) (c + q)) = .live i := slot_live R.tab.ris hi
        rw [sameMem]
        dsimp only
        simp only [if_true, live, R.ent hp]
        refine wpAny_bind (wpAny_isSame_ref_self (wpAny_bind (wpAny_pure ?_)))
        simp only [if_true]
        refine wp_if_neg (by simp [same]) ?_
        refine seekK R hx hu W hin hout f (c + (q + 1)) _ rfl (by omega) (by omega) fun i0 p0 h0 k0 => ?_
        obtain ⟨c', a1, a2, a3⟩ := hre i0 p0 h0 k0
        refine ⟨c', ?_, a2, a3⟩
        have low : ¬ c' < c + q := fun z => hno (c' - c) i0 (by omega) (by rw [cur_j, show c + (c' - c) = c' by omega]; exact a3) ((hashAt i0 p0 h0).trans (congrArg (kh P w) k0))
        have ne : c' ≠ c + q := fun z => by
          rw [z] at a3
          have u := slot_live R.tab.ris a3
          rw [live] at u
          injection u with u
          rw [← u, hp] at h0
          exact same ((congrArg Prod.snd (Option.some.inj h0)).trans k0)
        omega
      by_cases hl : t.led = true
      · refine wp_if_neg (by simp [hl]) ?_
        try refine wpAny_bind (wpAny_pure ?_)
        exact tail
      refine wp_if_pos (by simp [hl]) (wpAny_bind (unseenK hx (fun y hy => ?_) ?_))
      · obtain ⟨e, he, ee⟩ := List.mem_map.mp hy
        have he1 : e ∈ es ∧ e.1 = kh P w k := by simpa using he
        have he2 : e ∈ rowsK P w L := R.rows ▸ (by simpa using he1.1 : e ∈ es.toList)
        obtain ⟨p2, hp2, e2⟩ := List.mem_map.mp he2
        exact ⟨p2.2, p2.1, by rw [← ee, ← e2], R.tup p2 hp2⟩
      · refine wp_if_neg (by decide) ?_
        try refine wpAny_bind (wpAny_pure ?_)
        exact tail
    · -- the empty place
      rw [cur_j, show c + (K - c) = K by omega] at hpr
      have hpr : t.probe (fun i => (es[i]?.map (·.1)).getD 0) (kh P w k) (cur t (kh P w k) c) = _ := hpr
      rw [hpr]
      dsimp only
      refine wpAny_pure (hout fun hm => ?_)
      obtain ⟨p0, m0, k0⟩ := List.mem_map.mp hm
      obtain ⟨i0, hi0, e0⟩ := List.getElem_of_mem m0
      have h0 : L[i0]? = some p0 := by rw [List.getElem?_eq_getElem hi0, e0]
      obtain ⟨c', a1, a2, a3⟩ := hre i0 p0 h0 k0
      exact hno (c' - c) i0 (by omega) (by rw [cur_j, show c + (c' - c) = c' by omega]; exact a3) ((hashAt i0 p0 h0).trans (congrArg (kh P w) k0))
/-- the search that adding asks for -/
theorem searchK (R : KSet P w s.heap a L es ep t) {x : Addr} {k : List Key} (hx : IsK P w s.heap k x) (hu : A.units < cLine) {Q : SetFound → Shared → Prop}
    (hin : k ∈ L.map (·.2) → Q (.there none) s) (hout : ∀ K, k ∉ L.map (·.2) → Seek P w t k K → Q (.free (way t.mask (kh P w k) K) false) s) :
    wpAny (model P w) A (setSearch a (.ref x) (kh P w k) true) Q E s := by
  have rm := R.room
  obtain ⟨K, w1, w2, w3⟩ := R.tab.first (by rw [List.length_map]; omega) (kh P w k)
  have big : 10 * SetTable.turns t.mask ≤ 1420 := by
    unfold SetTable.turns
    rcases R.tab.mok with e | e | e <;> omega
  unfold setSearch
  refine seekK R hx hu ⟨w1, w2, w3⟩ hin (fun hn => hout K hn ⟨w1, w2, w3⟩) 100000 0 none rfl (Nat.zero_le _) (by omega) fun i p hp hk => ?_
  have hh : (L.map fun p => kh P w p.2)[i]? = some (kh P w k) := by
    rw [List.getElem?_map, hp, ← hk]
    rfl
  have il : i < t.place.toList.length := by
    have h1 := (List.getElem?_eq_some_iff.mp hp).1
    have h2 : t.place.size = L.length := R.tab.sz.trans (List.length_map _)
    rw [Array.length_toList]
    omega
  have hj := List.getElem?_eq_getElem il
  obtain ⟨c, hc, e⟩ := R.tab.before w2 hh hj
  exact ⟨c, Nat.zero_le _, hc, by rw [hj, e]⟩
end
end L2.KS
end

section
set_option Elab.async false
set_option linter.all false
set_option maxRecDepth 100000
set_option maxHeartbeats 4000000
namespace L2.KS
open PySem PySem.Spec PyProof.Rows
theorem range_self {α : Type} (L : List α) : (List.range L.length).filterMap (fun i => L[i]?) = L := by
  have key : ∀ n, n ≤ L.length → (List.range n).filterMap (fun i => L[i]?) = L.take n := fun n => by
    induction n with
    | zero => exact fun _ => rfl
    | succ n ih =>
      intro hn
      rw [List.range_succ, List.filterMap_append, ih (by omega), List.take_succ, List.getElem?_eq_getElem hn, List.filterMap_cons_some (List.getElem?_eq_getElem hn)]
      rfl
  rw [key _ (Nat.le_refl _), List.take_length]
theorem picks {α β γ : Type} {f : Nat → Option α} {g : α → β} {h : Nat → Option β} {u : α → γ} {v : Nat → γ} : ∀ {l : List Nat}, (∀ i ∈ l, ∃ x, f i = some x ∧ h i = some (g x) ∧ v i = u x) →
    l.filterMap h = (l.filterMap f).map g ∧ (l.filterMap f).map u = l.map v
  | [], _ => ⟨rfl, rfl⟩
  | i :: l, H => by
    obtain ⟨x, e1, e2, e3⟩ := H i List.mem_cons_self
    obtain ⟨i1, i2⟩ := picks (l := l) fun j hj => H j (List.mem_cons_of_mem _ hj)
    rw [List.filterMap_cons_some e1, List.filterMap_cons_some e2, List.map_cons, List.map_cons, List.map_cons, i1, i2, e3]
    exact ⟨rfl, rfl⟩
section
variable {P : Program} {w : World} {A : Around} {E : Value → Shared → Prop} {s : Shared} {a : Addr} {L : KL} {es : Array (Int × Value)} {ep : Nat} {t : SetTable}
theorem orderK {order : Array Nat} (hr : es.toList = rowsK P w L) (hp : order.toList.Perm (List.range L.length)) :
    ∃ L2, (order.filterMap (es[·]?)).toList = rowsK P w L2 ∧ L2.Perm L ∧ (L2.map fun p => kh P w p.2) = order.toList.map fun i => (es.map (·.1)).getD i 0 := by
  have z := rows_size hr
  have H : ∀ i ∈ order.toList, ∃ x, L[i]? = some x ∧ es[i]? = some (kh P w x.2, Value.ref x.1) ∧ (es.map (·.1)).getD i 0 = kh P w x.2 := fun i hi => by
    have il : i < L.length := List.mem_range.mp (hp.mem_iff.mp hi)
    have e1 : L[i]? = some L[i] := List.getElem?_eq_getElem il
    have e2 : es[i]? = some (kh P w L[i].2, Value.ref L[i].1) := by
      rw [← Array.getElem?_toList, hr, rowsK, List.getElem?_map, e1]
      rfl
    have e3 : (es.map (·.1))[i]? = some (kh P w L[i].2) := by
      rw [Array.getElem?_map, e2]
      rfl
    exact ⟨L[i], e1, e2, by simp [Array.getD_eq_getD_getElem?, e3]⟩
  obtain ⟨p1, p2⟩ := picks (f := fun i => L[i]?) (h := fun i => es[i]?) (g := fun x => (kh P w x.2, Value.ref x.1)) (u := fun x => kh P w x.2) (v := fun i => (es.map (·.1)).getD i 0) H
  refine ⟨order.toList.filterMap (fun i => L[i]?), ?_, ?_, p2⟩
  · rw [Array.toList_filterMap]
    exact p1
  · have q := hp.filterMap (fun i => L[i]?)
    rwa [range_self] at q
/-- the tuple stays where the set changes -/
theorem keepK {h h' : Heap} {k : List Key} {b : Addr} {o : Obj} (hb : IsK P w h k b) (ho : h.get? a = some o) (hd : o.data = .set es ep t) (hs : Heap.SameBut a h h') : IsK P w h' k b := by
  obtain ⟨o', its, n, ho', hc, hd', hi⟩ := hb
  refine ⟨o', its, n, (hs.2 b fun e => ?_).trans ho', hc, hd', hi⟩
  rw [e, ho] at ho'
  cases ho'
  rw [hd] at hd'
  exact nomatch hd'
theorem relayK {o : Obj} (ho : s.heap.get? a = some o) (hex : o.ExactSet) (hd : o.data = .set es ep t) (hr : es.toList = rowsK P w L) (hsz : t.place.size = es.size) (hdm : t.dummies = #[]) (hfl : es.size ≤ t.mask)
    (nd : (L.map (·.2)).Nodup) (tup : ∀ p ∈ L, IsK P w s.heap p.2 p.1) (ld : w.params.followText "set-order" = true ∨ t.led = true) {wanted M : Nat} (hw : SetTable.sizeAbove wanted - 1 = M) (hM : MaskOk M)
    (hw2 : SetTable.sizeAbove wanted ≤ 128) (hn : L.length * 5 < M * 3) {Q : Unit → Shared → Prop}
    (hQ : ∀ h' L' es' ep' t', Heap.SameBut a s.heap h' → KSet P w h' a L' es' ep' t' → L'.Perm L → Q () { s with heap := h' }) : wpAny (model P w) A (setRelay a wanted) Q E s := by
  have z := rows_size hr
  have fit : t.fits es.size = true := by
    unfold SetTable.fits SetTable.fill
    rw [hdm, Bool.and_eq_true, beq_iff_eq, decide_eq_true_eq]
    exact ⟨hsz, by show t.place.size + 0 ≤ t.mask; omega⟩
  obtain ⟨t', order, e, hp, T, em, el, _, _⟩ := relaid_ok t (hs := es.map (·.1)) (wanted := wanted) hw hM (by rw [Array.size_map, z]; omega)
  rw [Array.size_map, z] at hp
  obtain ⟨L2, r1, r2, r3⟩ := orderK hr hp
  rw [← r3] at T
  have z2 : (order.filterMap (es[·]?)).size = es.size := (rows_size r1).trans (r2.length_eq.trans z.symm)
  rw [setRelay_eq]
  refine wpAny_bind (wpAny_setState_of ho hd fit ?_)
  dsimp only
  refine wp_if_neg (by rw [sizeLine_eq]; omega) ?_
  try refine wpAny_bind (wpAny_pure ?_)
  rw [e]
  dsimp only
  refine wpAny_bind (wp_if_neg (by rw [z2]; simp) ?_)
  try refine wpAny_bind (wpAny_pure ?_)
  refine wpAny_pure ?_
  dsimp only
  refine wpAny_storeSet_of ho hd ?_ (by rw [z2, z, sizeLine_eq]; omega)
  have sb : Heap.SameBut a s.heap (s.heap.update a (Obj.putSet (order.filterMap (es[·]?)) t')) := Heap.SameBut.update ..
  exact hQ _ L2 (order.filterMap (es[·]?)) (ep + 1) t' sb ⟨⟨_, store_at ho hd, ⟨hex.1, hex.2.1, hex.2.2⟩, rfl⟩, r1, T, (r2.map (·.2)).nodup_iff.mpr nd, fun p hpm => keepK (tup p (r2.mem_iff.mp hpm)) ho hd sb,
    by rw [el]; exact ld, by rw [r2.length_eq, em]; exact hn⟩ r2
end
end L2.KS
end

section
set_option Elab.async false
set_option linter.all false
set_option maxRecDepth 100000
set_option maxHeartbeats 4000000
namespace L2.KS
open PySem PySem.Spec PyProof.Rows
section
variable {P : Program} {w : World} {A : Around} {E : Value → Shared → Prop} {s : Shared} {a : Addr} {L : KL} {es : Array (Int × Value)} {ep : Nat} {t : SetTable}
theorem rows_ins (L : KL) (p : Nat) (x : Addr) (k : List Key) : rowsK P w (L.take p ++ (x, k) :: L.drop p) = (rowsK P w L).take p ++ (kh P w k, Value.ref x) :: (rowsK P w L).drop p := by
  unfold rowsK
  rw [List.map_append, List.map_cons, List.map_take, List.map_drop]
/-- what the table is that has got a new one: as its put one, or no longer known by value -/
theorem dull {t1 t2 : SetTable} {hs : List Int} (e : t2 = t1 ∨ t2 = { t1 with plain := false }) (T : TabOk t1 hs) : TabOk t2 hs ∧ t2.mask = t1.mask ∧ t2.led = t1.led ∧ t2.fill = t1.fill ∧ t2.place = t1.place := by
  rcases e with rfl | rfl
  · exact ⟨T, rfl, rfl, rfl, rfl⟩
  · exact ⟨⟨T.ris, T.dm, T.sz, T.mok, T.bd, T.reach⟩, rfl, rfl, rfl, rfl⟩
/-- behind the storing: the larger table, or none -/
theorem tailK {o : Obj} (ho : s.heap.get? a = some o) (hex : o.ExactSet) (hd : o.data = .set es ep t) (hr : es.toList = rowsK P w L) (T : TabOk t (L.map fun p => kh P w p.2)) (nd : (L.map (·.2)).Nodup) (tup : ∀ p ∈ L, IsK P w s.heap p.2 p.1)
    (ld : w.params.followText "set-order" = true ∨ t.led = true) (fl : t.fill = L.length) {n : Nat} (hn : L.length = n + 1) (prev : n * 5 < t.mask * 3) (top : n + 1 ≤ 76) {Q : Unit → Shared → Prop}
    (hQ : ∀ h' L' es' ep' t', Heap.SameBut a s.heap h' → KSet P w h' a L' es' ep' t' → L'.Perm L → Q () { s with heap := h' }) :
    (t.tooFull = true → wpAny (model P w) A (setRelay a (SetTable.grown (n + 1))) Q E s) ∧ (¬ t.tooFull = true → Q () s) := by
  have z := rows_size hr
  have m := T.mok
  refine ⟨fun f => ?_, fun f => ?_⟩
  · unfold SetTable.tooFull at f
    rw [decide_eq_true_eq, fl] at f
    have two : (t.mask = 7 ∧ n = 4) ∨ (t.mask = 31 ∧ n = 18) := by
      rcases m with e | e | e <;> omega
    have sz : t.place.size = es.size := T.sz.trans ((List.length_map _).trans z.symm)
    rcases two with ⟨e1, e2⟩ | ⟨e1, e2⟩ <;> subst e2
    · exact relayK ho hex hd hr sz T.dm (by omega) nd tup ld (M := 31) (by rw [size_20]) (.inr (.inl rfl)) (by rw [size_20]; decide) (by omega) hQ
    · exact relayK ho hex hd hr sz T.dm (by omega) nd tup ld (M := 127) (by rw [size_76]) (.inr (.inr rfl)) (by rw [size_76]; decide) (by omega) hQ
  · unfold SetTable.tooFull at f
    rw [decide_eq_true_eq, fl] at f
    exact hQ s.heap L es ep t (Heap.SameBut.refl a s.heap) ⟨⟨o, ho, hex, hd⟩, hr, T, nd, tup, ld, by omega⟩ (List.Perm.refl _)
theorem addK (R : KSet P w s.heap a L es ep t) {x : Addr} {k : List Key} (hx : IsK P w s.heap k x) (hu : A.units < cLine) (top : L.length + 1 ≤ 76) {Q : Bool → Shared → Prop}
    (hQ : ∀ b h' L' es' ep' t', Heap.SameBut a s.heap h' → KSet P w h' a L' es' ep' t' → (k ∈ L.map (·.2) → L' = L) → (k ∉ L.map (·.2) → L'.Perm ((x, k) :: L)) → Q b { s with heap := h' }) :
    wpAny (model P w) A (setAddHashed a (.ref x) (kh P w k)) Q E s := by
  obtain ⟨o, ho, hex, hd⟩ := R.ob
  have z := rows_size R.rows
  have rm := R.room
  unfold setAddHashed
  refine wpAny_holding ?_
  rw [show (100000 : Nat) = 99999 + 1 from rfl, setAddHashedIn_succ]
  refine wpAny_bind (wpAny_setState_of ho hd R.fit ?_)
  dsimp only
  refine wp_if_neg (by simp [byScan, Value.scannable]) ?_
  try refine wpAny_bind (wpAny_pure ?_)
  refine wpAny_bind (searchK R hx hu (fun hm => ?_) fun K hm W => ?_)
  · dsimp only
    exact wpAny_pure (hQ false s.heap L es ep t (Heap.SameBut.refl a s.heap) R (fun _ => rfl) fun y => absurd hm y)
  dsimp only
  refine wpAny_bind (wpAny_setState_of ho hd R.fit ?_)
  dsimp only
  obtain ⟨q1, q2, q3, q4, q5, _, _, _, q9⟩ := R.tab.put W.out W.bef
  obtain ⟨p, hp⟩ : ∃ p, p = SetTable.below t.place (way t.mask (kh P w k) K) := ⟨_, rfl⟩
  rw [← hp] at q1 q2 q3
  rw [List.length_map] at q2 q9
  have pm := put_perm L p (x, k)
  have len : (L.take p ++ (x, k) :: L.drop p).length = L.length + 1 := pm.length_eq
  have hs1 : (L.take p ++ (x, k) :: L.drop p).map (fun p => kh P w p.2) = (L.map fun p => kh P w p.2).take p ++ kh P w k :: (L.map fun p => kh P w p.2).drop p := by
    rw [List.map_append, List.map_cons, List.map_take, List.map_drop]
  rw [← hs1] at q3
  have ins : (SetTable.insertAt es p (kh P w k, Value.ref x)).toList = rowsK P w (L.take p ++ (x, k) :: L.drop p) := by
    rw [SetTable.toList_insertAt, rows_ins, R.rows]
  have nd1 : ((L.take p ++ (x, k) :: L.drop p).map (·.2)).Nodup := (pm.map (·.2)).nodup_iff.mpr (by rw [List.map_cons]; exact List.nodup_cons.mpr ⟨hm, R.nd⟩)
  have zi : (SetTable.insertAt es p (kh P w k, Value.ref x)).size = L.length + 1 := (rows_size ins).trans len
  generalize hpt : t.put (way t.mask (kh P w k) K) = pt at q1 q3 q4 q5 q9 ⊢
  obtain ⟨t1, p1⟩ := pt
  dsimp only at q1 q3 q4 q5 q9 ⊢
  subst q1
  generalize L.take p1 ++ (x, k) :: L.drop p1 = L1 at pm len q3 nd1 ins
  generalize SetTable.insertAt es p1 (kh P w k, Value.ref x) = es1 at ins zi ⊢
  have rest : ∀ t2, (t2 = t1 ∨ t2 = { t1 with plain := false }) → wpAny (model P w) A (do
      storeSet a es1 t2
      if !false && t2.tooFull then setRelay a (SetTable.grown (es.size + 1))
      return true) Q E s := fun t2 e2 => by
    obtain ⟨T2, m2, l2, f2, _⟩ := dull e2 q3
    refine wpAny_bind (wpAny_storeSet_of ho hd ?_ (by rw [zi, sizeLine_eq]; omega))
    have sb : Heap.SameBut a s.heap (s.heap.update a (Obj.putSet es1 t2)) := Heap.SameBut.update ..
    have ho1 := store_at (es' := es1) (t' := t2) ho hd
    generalize s.heap.update a (Obj.putSet es1 t2) = h1 at sb ho1 ⊢
    have tup1 : ∀ p ∈ L1, IsK P w h1 p.2 p.1 := fun p hp => by
      rcases List.mem_cons.mp (pm.mem_iff.mp hp) with e | hp
      · rw [e]
        exact keepK hx ho hd sb
      · exact keepK (R.tup p hp) ho hd sb
    have tl := tailK (s := { s with heap := h1 }) (A := A) (E := E) (n := L.length) (Q := fun _ s' => wpAny (model P w) A (pure true) Q E s') ho1 ⟨hex.1, hex.2.1, hex.2.2⟩ rfl ins T2 nd1 tup1 (by rw [l2, q5]; exact R.led) (by rw [f2, q9, len]) len (by rw [m2, q4]; exact rm) top
      fun h' L' es' ep' t' s2 R2 p2 => wpAny_pure (hQ true h' L' es' ep' t' (sb.trans s2) R2 (fun y => absurd y hm) fun _ => p2.trans pm)
    rw [z]
    by_cases f : t2.tooFull = true
    · have c : (!false && t2.tooFull) = true := by rw [f]; rfl
      first
        | exact wpAny_bind (wp_if_pos c (tl.1 f))
        | exact wp_if_pos c (wpAny_bind (tl.1 f))
    · have c : ¬ (!false && t2.tooFull) = true := by simpa using f
      first
        | exact wp_if_neg c (tl.2 f)
        | exact wpAny_bind (wp_if_neg c (wpAny_pure (tl.2 f)))
  by_cases pl : t1.plain = true
  · refine wp_if_pos pl (wpAny_bind (hashK hx fun y => ?_))
    cases y with
    | true => exact rest t1 (.inl rfl)
    | false => exact rest _ (.inr rfl)
  · exact wp_if_neg pl (wpAny_bind (wpAny_pure (rest t1 (.inl rfl))))
end
end L2.KS
end

section
set_option Elab.async false
set_option linter.all false
set_option maxRecDepth 100000
set_option maxHeartbeats 4000000
namespace L2.KS
open PySem PySem.Spec PyProof.Rows
/-! ### set comprehensions, whatever the set holds: F0 D is the empty set at D, Put what adding asks and leaves -/
abbrev freshSet (w : World) : Obj := { cls := .type "set", dict := none, data := .set #[] 0 (.fresh 0 0 (!w.params.followText "set-order")) }
structure Holds (P : Program) (w : World) (F0 : Addr → HO) (Put : Addr → V → Hp → (Hp → Prop) → Prop) (ok : Around → Prop) : Prop where
  new : ∀ (H : Hp) (h : Heap) (D : Addr), h.get? D = some (freshSet w) → ObjOk P w H h D (F0 D)
  add : ∀ (X : Cx), X.prog = P → X.w = w → ok X.A → ∀ (pins : List (Addr × Obj)) (σ : St) (H : Hp) (s : Shared) (D : Addr) (y : V) (v : Value) (N : Hp → Prop) (E : Value → Shared → Prop), Inv X pins σ H s → RelV y v → Put D y H N →
    wpAny (model P w) X.A (call (.builtin "set.add") [.ref D, v]) (fun _ s1 => ∃ H1, Inv X pins σ H1 s1 ∧ N H1) E s
def tSof (F0 : Addr → HO) (Put : Addr → V → Hp → (Hp → Prop) → Prop) (wi : TI) (g : TG) (tt : TT) (te : TE) (vs : List Nat) : TE := fun σ H Q => wi σ H fun J H1 => ∀ D, H1 D = none →
  ∃ W : Nat → Nat → Hp → Prop, (∃ m, W 0 m (upd H1 D (F0 D))) ∧ ∀ i m H2, W i m H2 → (J.stop i H2 ∧ Q (.ref D) H2) ∨
    (J.go i H2 ∧ ∃ N : Hp → Prop, (∀ H3, N H3 → ∃ m', m' < m ∧ W (i + 1) m' H3) ∧ ∀ x H3, J.yld i H2 x H3 → g x (wipe σ vs) H3 fun σ4 H4 => wipe σ4 vs = wipe σ vs ∧ tt σ4 H4 fun b H5 => if b = true then te σ4 H5 fun y H6 => Put D y H6 N else N H5)
section
variable {X : Cx} {F0 : Addr → HO} {Put : Addr → V → Hp → (Hp → Prop) → Prop} {okA : Around → Prop}
theorem pe_setOf {elt tg iter : Expr} {ifs : List Expr} {scope : Scope} {own : List (PySem.Str × Nat)} {pos : Pos} {wi : TI} {g : TG} {tt : TT} {te : TE} (G : Holds X.prog X.w F0 Put okA) (hA : okA X.A) (hc : X.calm = true) (hN : X.N.Nodup)
    (hi : PI X tg iter wi) (ok : BlkOk X.N X.env.scope scope own)
    (hg : ∀ (s : Shared) (H : Hp) (C : Addr) (cl : List (PySem.Str × Addr)) (fp : List Addr), PG (X.blk s H scope (compEnvC scope cl C X.env) fp) tg g)
    (ht : ∀ (s : Shared) (H : Hp) (C : Addr) (cl : List (PySem.Str × Addr)) (fp : List Addr), PTs (X.blk s H scope (compEnvC scope cl C X.env) fp) ifs tt)
    (he : ∀ (s : Shared) (H : Hp) (C : Addr) (cl : List (PySem.Str × Addr)) (fp : List Addr), PE (X.blk s H scope (compEnvC scope cl C X.env) fp) elt te)
    (hs : ∀ x, foldedSetIterable iter X.env x = pure x := by intro _; rfl) : PE X (.SetComp elt [⟨tg, iter, ifs, 0⟩] scope pos) (tSof F0 Put wi g tt te (own.map (·.2))) := by
  refine ⟨fun pins s σ H Q I h => ?_⟩
  rw [PpSet.eval_SetComp]
  have cellsThere : ∀ y ∈ scope.names, y.2 = .free → ∃ c, X.env.cells.lookup y.1 = some c := fun y hy e => (ok.free y hy e).elim (fun k => I.ok.has _ (.inl k)) (fun k => I.ok.has _ (.inr k))
  refine wpAny_comprehension_free (use := none) rfl hs (closure_ok cellsThere) ok.kind (fun y hy e => by rw [ok.uniq y hy, e]) (thn (hi.run pins s σ H _ I h) fun _ s1 h1 => thn h1 fun _ s2 h2 => ?_)
  obtain ⟨it, fp, tn, J, H2, rfl, I2, T, st2, f2, q⟩ := h2
  refine PpSet.newSet_ok (newEnv_comp ?_)
  have Dn : H2 s2.heap.objs.size = none := I2.hok.fresh (Nat.le_refl _)
  obtain ⟨W, ⟨m0, w0⟩, turn⟩ := q _ Dn
  -- the set stands
  obtain ⟨D, eD⟩ : ∃ D, D = s2.heap.objs.size := ⟨_, rfl⟩
  obtain ⟨s3, e3⟩ : ∃ s3 : Shared, s3 = { s2 with heap := s2.heap.push (freshSet X.w) } := ⟨_, rfl⟩
  obtain ⟨H3, eH⟩ : ∃ H3, H3 = upd H2 D (F0 D) := ⟨_, rfl⟩
  rw [← eD] at w0 turn Dn
  rw [← eH] at w0
  have old : ∀ b o, s2.heap.get? b = some o → s3.heap.get? b = some o := fun b o e => by rw [e3]; exact Heap.get?_push_of_some _ e
  have I3 : Inv X pins σ H3 s3 := by
    rw [e3, eH, eD]
    exact I2.laid (t' := s2.toks) (fun b o e => Heap.get?_push_of_some _ e) (Nat.le_refl _) (G.new _ _ _ (Heap.get?_push_size _ rfl))
  have f3 : ∀ b ∈ fp, FpOk X pins H3 b ∧ b < s3.heap.objs.size := fun b hb => by
    obtain ⟨o, e, _⟩ := T.obj _ _ st2 b hb
    have lt := Heap.lt_size e
    refine ⟨⟨?_, (f2 b hb).2⟩, Heap.lt_size (old b o e)⟩
    rw [eH, upd_ne (by rw [eD]; exact Nat.ne_of_lt lt)]
    exact (f2 b hb).1
  have st3 : tn 0 s3.heap := T.keep _ _ _ st2 fun b _ o e => old b o e
  have I4 := block_start I3 ok hN f3
  have pg := hg s3 H3 s3.heap.objs.size (cellsFrom (s3.heap.objs.size + 1) scope.names (cloFrom X.env.cells scope.names [])) fp
  have pt := ht s3 H3 s3.heap.objs.size (cellsFrom (s3.heap.objs.size + 1) scope.names (cloFrom X.env.cells scope.names [])) fp
  have pe := he s3 H3 s3.heap.objs.size (cellsFrom (s3.heap.objs.size + 1) scope.names (cloFrom X.env.cells scope.names [])) fp
  rw [← eD, ← e3]
  obtain ⟨ce, ec⟩ : ∃ ce, ce = compEnvC scope (cellsFrom (s3.heap.objs.size + 1) scope.names (cloFrom X.env.cells scope.names [])) s3.heap.objs.size X.env := ⟨_, rfl⟩
  obtain ⟨s4, e4⟩ : ∃ s4 : Shared, s4 = { s3 with heap := pushCells (s3.heap.push { cls := .type "dict", data := .dict #[] }) scope.names } := ⟨_, rfl⟩
  have cL : ce.locals = s3.heap.objs.size := by rw [ec]; rfl
  rw [← ec] at I4 pg pt pe
  rw [← e4] at I4
  suffices body : codeAny (model X.prog X.w) X.A (.compLoop (.SetComp elt [⟨tg, iter, ifs, 0⟩] scope pos) 0 (.ref it) (.ref D) ce) (compPost (model X.prog X.w) X.A X.xe none (EP X pins σ Q) (.ref D) s3.heap.objs.size) s4 by
    have st4 : tn 0 s4.heap := T.keep _ _ _ st3 fun b _ o e => by rw [e4]; exact pushCells_keeps _ _ _ _ (Heap.get?_push_of_some _ e)
    have all := PpSet.codeAny_compStart_set body (T.self X.A 0 _ _ _ st4 body)
    rw [ec, e4] at all
    exact all
  have st4 : tn 0 s4.heap := T.keep _ _ _ st3 fun b _ o e => by rw [e4]; exact pushCells_keeps _ _ _ _ (Heap.get?_push_of_some _ e)
  have nf : ∀ b ∈ fp, H3 b = none := fun b hb => (f3 b hb).1.1
  -- the iterator's own things stay fit
  have fit : ∀ {σ' : St} {H' : Hp} {s' : Shared}, Inv (X.blk s3 H3 scope ce fp) [] σ' H' s' → (∀ b ∈ fp, H' b = none) → ∀ b ∈ fp, FpOk (X.blk s3 H3 scope ce fp) [] H' b := fun {σ' H' s'} J' hn b hb =>
    ⟨hn b hb, (J'.ok.exf b hb).1, J'.ok.exfs b hb, .inl hb, fun x c e => (J'.ok.exf b hb).2 x c e, fun p hp => absurd (show p ∈ ([] : List (Addr × Obj)) ++ [] from hp) (by simp)⟩
  let St (n : Nat) (s' : Shared) : Prop := ∃ i H', Inv (X.blk s3 H3 scope ce fp) [] (wipe σ (own.map (·.2))) H' s' ∧ tn i s'.heap ∧ (∀ b ∈ fp, H' b = none) ∧ W i n H'
  refine PpSet.compLoopS_any St ?_ m0 ⟨0, H3, I4, st4, nf, w0⟩
  rintro n s5 ⟨i, H5, I5, st5, n5, w5⟩
  rcases turn i n H5 w5 with ⟨stop, qq⟩ | ⟨go, N, hNx, step⟩
  · refine thnF (T.done (X.blk s3 H3 scope ce fp) rfl rfl rfl hc i [] s5 _ H5 (fun _ _ => False) I5 (fit I5 n5) st5 stop) fun r s6 ⟨hr, I6⟩ => ?_
    cases hr
    have I7 : Inv X pins σ H5 s6 := I3.call' (ch := fp) I6.os I6.base I6.hok I6.bare fun b hb => ⟨(f3 b hb).1.2.2.2.1, (f3 b hb).1.2.1, (f3 b hb).1.2.2.2.2.1, (f3 b hb).1.2.2.2.2.2⟩
    have nC : H5 s3.heap.objs.size = none := cL ▸ (show H5 ce.locals = none from I6.free)
    obtain ⟨m, hn, _⟩ := I6.loc
    have hn : s6.heap.Ns s3.heap.objs.size m := cL ▸ (show s6.heap.Ns ce.locals m from hn)
    obtain ⟨y0, y1, _, y3, y4, y5⟩ := I3.fpOk (Nat.le_refl _) nC
    exact ⟨m, hn, fun h'' sb => ⟨.ref D, H5, I7.turned (t' := s6.toks) (fun b o hb e => (sb.2 b hb).trans e) y0 y1 y3 y4 y5, rfl, qq⟩⟩
  · refine thnF (T.item (X.blk s3 H3 scope ce fp) rfl rfl rfl hc i [] s5 _ H5 (fun _ _ => False) I5 (fit I5 n5) st5 go) fun r s6 ⟨u, hr, h6⟩ => ?_
    subst hr
    refine thnF h6 fun _ s7 ⟨x, H7, I7, r7, y7, st7, n7⟩ => ?_
    refine thnF (pg.run _ s7 _ H7 x u _ (I7.pinned (fit I7 n7) (T.obj _ _ st7)) r7 (step x H7 y7)) fun _ s8 ⟨σ8, H8, I8, hw8, q8⟩ => ?_
    refine thnF (pt.run _ s8 σ8 H8 _ I8 q8) fun b s9 ⟨H9, I9, q9⟩ => ?_
    have over : ∀ {s' : Shared} {H' : Hp}, Inv (X.blk s3 H3 scope ce fp) ([] ++ pinsAt fp s7.heap) σ8 H' s' → N H' → ∃ m, m < n ∧ St m s' := fun {s' H'} J' nx => by
      obtain ⟨m', lt, w'⟩ := hNx H' nx
      have held : ∀ b ∈ fp, ∀ o, s7.heap.get? b = some o → s'.heap.get? b = some o ∧ H' b = none := fun b hb o e =>
        have z := J'.pin (b, o) (List.mem_append_right _ (List.mem_append_right _ (mem_pinsAt hb e)))
        ⟨z.1, z.2.1⟩
      refine ⟨m', lt, i + 1, H', J'.unpinned.weak (by rw [← hw8, wipe_length]) (fun j v e => ?_), T.keep _ _ _ st7 fun b hb o e => (held b hb o e).1, fun b hb => ?_, w'⟩
      · rw [← hw8] at e
        exact (wipe_some e).1
      · obtain ⟨o, e, _⟩ := T.obj _ _ st7 b hb
        exact (held b hb o e).2
    cases b with
    | false => exact over I9 (by simpa using q9)
    | true =>
      have q9 : te σ8 H9 fun y H6 => Put D y H6 N := by simpa using q9
      refine thnF (pe.run _ s9 σ8 H9 _ I9 q9) fun z s10 ⟨yv, H10, I10, r10, pz⟩ => ?_
      exact thnF (G.add (X.blk s3 H3 scope ce fp) rfl rfl hA _ σ8 H10 s10 D yv z N _ I10 r10 pz) fun _ s11 ⟨H11, I11, nx⟩ => over I11 nx
end
end L2.KS
end

section
set_option Elab.async false
set_option linter.all false
set_option maxRecDepth 100000
set_option maxHeartbeats 4000000
namespace L2.KS
open PySem PySem.Spec PyProof.Rows
/-! ### the set of tuples as a tracked thing, and the comprehension that fills it -/
structure KSet0 (P : Program) (w : World) (h : Heap) (a : Addr) (L : KL) : Prop where
  ex : ∃ (es : Array (Int × Value)) (ep : Nat) (t : SetTable), (∃ o, h.get? a = some o ∧ o.ExactSet ∧ o.data = .set es ep t) ∧ es.toList = rowsK P w L ∧ TabOk t (L.map fun p => kh P w p.2) ∧ (L.map (·.2)).Nodup ∧
    (w.params.followText "set-order" = true ∨ t.led = true) ∧ L.length * 5 < t.mask * 3
def KSO (P : Program) (w : World) (a : Addr) (L : KL) : HO := .ext fun h => KSet0 P w h a L
section
variable {P : Program} {w : World} {H : Hp} {h : Heap} {a : Addr} {L : KL}
theorem KSet.bare {es : Array (Int × Value)} {ep : Nat} {t : SetTable} (R : KSet P w h a L es ep t) : KSet0 P w h a L := ⟨es, ep, t, R.ob, R.rows, R.tab, R.nd, R.led, R.room⟩
theorem KSet0.full (R : KSet0 P w h a L) (ht : ∀ p ∈ L, IsK P w h p.2 p.1) : ∃ es ep t, KSet P w h a L es ep t := by
  obtain ⟨es, ep, t, h1, h2, h3, h4, h6, h7⟩ := R.ex
  exact ⟨es, ep, t, h1, h2, h3, h4, ht, h6, h7⟩
theorem kso_ok (R : KSet0 P w h a L) : ObjOk P w H h a (KSO P w a L) := by
  have ⟨es, ep, t, ⟨o, ho, r⟩, q⟩ := R.ex
  refine ⟨R, ⟨o, ho⟩, fun h1 h2 p k => ?_⟩
  have ⟨es', ep', t', ⟨o', ho', r'⟩, q'⟩ := KSet0.ex p
  exact ⟨es', ep', t', ⟨o', k o' ho', r'⟩, q'⟩
theorem kset_new (ho : h.get? a = some (freshSet w)) : KSet P w h a [] #[] 0 (.fresh 0 0 (!w.params.followText "set-order")) where
  ob := ⟨_, ho, ⟨rfl, rfl, rfl⟩, rfl⟩
  rows := rfl
  tab := ⟨List.Pairwise.nil, rfl, rfl, .inl rfl, fun x hx => (nomatch hx), fun i h j hi => (by simp at hi)⟩
  nd := List.nodup_nil
  tup := fun p hp => (nomatch hp)
  led := by
    show _ ∨ (!w.params.followText "set-order") = true
    cases w.params.followText "set-order"
    · exact .inr rfl
    · exact .inl rfl
  room := by
    show 0 * 5 < 7 * 3
    decide
end
/-- set.add of such a tuple -/
theorem callAdd {P : Program} {w : World} {A : Around} {E : Value → Shared → Prop} {s : Shared} {a : Addr} {L : KL} {es : Array (Int × Value)} {ep : Nat} {t : SetTable} (R : KSet P w s.heap a L es ep t) {x : Addr} {k : List Key} (hx : IsK P w s.heap k x) (hu : A.in1.units < cLine) (top : L.length + 1 ≤ 76) {Q : Value → Shared → Prop}
    (hQ : ∀ h' L' es' ep' t', Heap.SameBut a s.heap h' → KSet P w h' a L' es' ep' t' → (k ∈ L.map (·.2) → L' = L) → (k ∉ L.map (·.2) → L'.Perm ((x, k) :: L)) → Q .none { s with heap := h', toks := s.toks + (k.length + 1) }) :
    wpAny (model P w) A (call (.builtin "set.add") [.ref a, .ref x]) Q E s := by
  obtain ⟨o, ho, hex, hd⟩ := R.ob
  have ty : s.TypeIs (.ref a) "set" := ⟨o, ho, hex.1⟩
  refine wpAny_call_entry F.slot_set_add ty F.entry_set_add ?_ (F.args_set_add_2 _ _)
  unfold Builtin.«set.add» Builtin.Frozenset.oneOther
  simp only [List.isEmpty_nil, bind_assoc]
  unfold Builtin.Frozenset.addrOf setAdd
  refine wpAny_bind (wpAny_pure ?_)
  try dsimp only
  refine wpAny_bind (wpAny_pure ?_)
  try dsimp only
  refine wpAny_bind (wpAny_holding (wpAny_bind (wpAny_pyHash_tuple hu hx ?_)))
  refine addK (s := { s with toks := s.toks + (k.length + 1) }) R hx hu top fun b h' L' es' ep' t' sb R2 c1 c2 => ?_
  show wpAny _ _ (ret Value.none) _ _ _
  exact wpAny_pure ⟨_, rfl, hQ h' L' es' ep' t' sb R2 c1 c2⟩
/-- what adding asks: a tuple of ints and texts, and that the set stays small -/
def PutK (P : Program) (w : World) : Addr → V → Hp → (Hp → Prop) → Prop := fun D y H N => ∃ (t : Addr) (k : List Key) (L : KL), y = .ref t ∧ H t = some (.tup (k.map kV)) ∧ H D = some (KSO P w D L) ∧ (∀ p ∈ L, H p.1 = some (.tup (p.2.map kV))) ∧ L.length + 1 ≤ 76 ∧
  ∀ L' : KL, (k ∈ L.map (·.2) → L' = L) → (k ∉ L.map (·.2) → L'.Perm ((t, k) :: L)) → N (upd H D (KSO P w D L'))
theorem holdsK (P : Program) (w : World) : Holds P w (fun D => KSO P w D []) (PutK P w) (fun A => A.units + 64 < cLine) where
  new := fun H h D e => kso_ok (kset_new e).bare
  add := fun X eP eW hu pins σ H s D y v N E I r p => by
    subst eP eW
    obtain ⟨t, k, L, rfl, ht, hD, hL, top, q⟩ := p
    cases (show v = Value.ref t from r)
    have R0 : KSet0 X.prog X.w s.heap D L := (I.hok D _ hD).1
    obtain ⟨es, ep, tb, R⟩ := R0.full fun p hp => key_of I.hok (hL p hp)
    refine callAdd R (key_of I.hok ht) (by show X.A.units + 1 < cLine; omega) top fun h' L' es' ep' t' sb R2 c1 c2 => ?_
    have there : ∃ u, h'.get? D = some u := let ⟨o, ho, _⟩ := R2.ob; ⟨o, ho⟩
    exact ⟨_, I.write (e := D) (t' := s.toks + (k.length + 1)) (by rw [hD]; trivial) (.inl rfl) (fun b u hb hu => (sb.2 b hb).trans hu) there (kso_ok R2.bare), q L' c1 c2⟩
end L2.KS
end

section
set_option Elab.async false
set_option linter.all false
set_option maxRecDepth 100000
set_option maxHeartbeats 4000000
namespace L2.KS
open PySem PySem.Spec PyProof.Rows
open PySem.W (EachIs AllAlike Sortable dataLe)
/-! ### sorted(..) of data: of a list, a tuple, a set -/
section
variable {prog : Program} {w : World} {A : Around} {E : Value → Shared → Prop} {s : Shared}
abbrev VD := V × PyData
/-- a value stands for an item: by the layer, and as data -/
def Sd (h : Heap) (u : Value) (b : VD) : Prop := RelV b.1 u ∧ ∃ as, Reads h u b.2 as ∧ ∀ x ∈ as, x < h.objs.size
theorem callSorted {a : Addr} {Q : Value → Shared → Prop} {bs : List VD} (Ok : List VD → Prop) (hOk : ∀ cs, Ok cs → cs.Perm bs) (hal : AllAlike (bs.map (·.2))) (hk : Sortable (bs.map (·.2))) (hz : bs.length ≤ sizeLine) (hu : ∀ b ∈ bs, A.units + 2 + b.2.depth < cLine)
    (coll : ∀ (R : List Value → Shared → Prop) (E : Value → Shared → Prop), (∀ s1 vs cs, (∀ b o, s.heap.get? b = some o → s1.heap.get? b = some o) → s.heap.objs.size ≤ s1.heap.objs.size → s1.gens = s.gens → s1.os = s.os → Ok cs → EachIs (Sd s1.heap) vs cs → R vs s1) → wpAny (model prog w) A.in1 (collect (.ref a)) R E s)
    (hQ : ∀ s2 p cs (out : List Value) c, (∀ b o, s.heap.get? b = some o → s2.heap.get? b = some o) → s2.gens = s.gens → s2.os = s.os → s.heap.objs.size ≤ p → Ok cs → s2.heap.get? p = some (seqObj "list" out.toArray c) →
      EachIs (fun u (b : VD) => RelV b.1 u) out (cs.mergeSort (dataLe false (·.2))) → Q (.ref p) s2) : wpAny (model prog w) A (call (.builtin "sorted") [.ref a]) Q E s := by
  refine Calls.call_function_entry kind_sorted plain_sorted entry_sorted (args_sorted1 _) ?_
  unfold Builtin.«sorted»
  refine wpAny_bind (m := checkCount "sorted" 1 1 _) (wpAny_pure ?_)
  refine wpAny_bind (coll _ _ fun s1 vs cs k1 z1 g1 o1 ok e => ?_)
  have pm := hOk cs ok
  have len : vs.length = bs.length := e.length ▸ pm.length_eq
  have al : AllAlike (cs.map (·.2)) := fun d hd d' hd' => hal d ((pm.map _).mem_iff.mp hd) d' ((pm.map _).mem_iff.mp hd')
  have so : Sortable (cs.map (·.2)) := hk.elim (fun z => .inl fun d hd => z d ((pm.map _).mem_iff.mp hd)) (fun z => .inr fun d hd => z d ((pm.map _).mem_iff.mp hd))
  refine wpAny_bind (wpAny_newList ?_ (by omega))
  have hoL : (s1.heap.push (seqObj "list" vs.toArray 0)).get? s1.heap.objs.size = some (seqObj "list" vs.toArray 0) := Heap.get?_push_size _ rfl
  refine wpAny_bind (wpAny_holding (PySem.W.list_sort_data (s := { s1 with heap := s1.heap.push (seqObj "list" vs.toArray 0) }) (enc := (·.2)) (R := fun u (b : VD) => RelV b.1 u) hoL (e.mono fun _ _ x => x.1)
    (e.mono fun u b ⟨_, as, r, lt⟩ => ⟨as, PyProof.Rows.Reads.keeps (fun b o q => Heap.get?_push_of_some _ q) r, fun m => absurd (lt _ m) (Nat.lt_irrefl _)⟩) al so (by rw [pm.length_eq]; exact hz) (fun b hb => by
      have := hu b (pm.mem_iff.mp hb)
      show A.units + 1 + 1 + b.2.depth < cLine
      omega) fun out ol eo => ?_))
  obtain ⟨c, hc⟩ := sortedHeap_at (vs := vs) (out := out.toArray) hoL
  refine wpAny_pure ⟨_, rfl, hQ _ s1.heap.objs.size cs out c (fun b u q => ?_) g1 o1 z1 ok hc eo⟩
  have q1 := k1 b u q
  have lt := Heap.lt_size q1
  show (sortedHeap (s1.heap.push (seqObj "list" vs.toArray 0)) s1.heap.objs.size vs out.toArray).get? b = some u
  rw [sortedHeap_old (Nat.ne_of_lt lt) (by rw [size_push']; exact Nat.lt_succ_of_lt lt)]
  exact Heap.get?_push_of_some _ q1
end
mutual
theorem ownLt {h : Heap} : ∀ {v : Value} {d : PyData} {as : List Addr}, Reads h v d as → ∀ x ∈ as, x < h.objs.size
  | _, _, _, .none, x, m => nomatch m
  | _, _, _, .bool b, x, m => nomatch m
  | _, _, _, .int i t, x, m => nomatch m
  | _, _, _, .str y t, x, m => nomatch m
  | _, _, _, .list h1 h2 h3 h4, x, m => (List.mem_cons.mp m).elim (fun e => e ▸ Heap.lt_size h1) (ownLtAll h4 x)
  | _, _, _, .tuple h1 h2 h3 h4, x, m => ownLtAll h4 x m
  | _, _, _, .dict h1 h2 h3 h4 h5, x, m => (List.mem_append.mp m).elim (fun m => (List.mem_cons.mp m).elim (fun e => e ▸ Heap.lt_size h1) (ownLtAll h4 x)) (ownLtAll h5 x)
theorem ownLtAll {h : Heap} : ∀ {vs : List Value} {ds : List PyData} {as : List Addr}, ReadsAll h vs ds as → ∀ x ∈ as, x < h.objs.size
  | _, _, _, .nil, x, m => nomatch m
  | _, _, _, .cons h1 h2, x, m => (List.mem_append.mp m).elim (ownLt h1 x) (ownLtAll h2 x)
end
section
variable {X : Cx} {pins : List (Addr × Obj)} {σ : St} {H : Hp} {s : Shared}
theorem Sd.keeps {h h' : Heap} {u : Value} {b : VD} (x : Sd h u b) (k : ∀ a o, h.get? a = some o → h'.get? a = some o) (z : h.objs.size ≤ h'.objs.size) : Sd h' u b := by
  obtain ⟨r, as, q, lt⟩ := x
  exact ⟨r, as, PyProof.Rows.Reads.keeps k q, fun x m => Nat.lt_of_lt_of_le (lt x m) z⟩
theorem collectS {prog : Program} {w : World} {A : Around} {E : Value → Shared → Prop} {s : Shared} {R : List Value → Shared → Prop} (it : Addr) {T : String} {o : Obj} {items : Array Value} {n : Nat} (hT : T = "list" ∨ T = "tuple") (ho : s.heap.get? it = some o) (hc : o.cls = .type T) (hd : o.data = .seq items n)
    (hz : items.size ≤ sizeLine) (hR : ∀ h', (∀ b u, s.heap.get? b = some u → h'.get? b = some u) → s.heap.objs.size ≤ h'.objs.size → R items.toList { s with heap := h' }) : wpAny (model prog w) A (collect (.ref it)) R E s := by
  let S := s.heap.objs.size
  let h1 := s.heap.push { cls := .type "list", data := .seq ([] : List Value).toArray }
  let h2 := h1.update S (Obj.mapSeq (· ++ items))
  have at1 : h1.get? S = some { cls := .type "list", data := .seq ([] : List Value).toArray } := Heap.get?_push_size _ rfl
  have old : ∀ b u, s.heap.get? b = some u → h2.get? b = some u := fun b u e => (Heap.get?_update_other _ _ (Nat.ne_of_gt (Heap.lt_size e))).trans (Heap.get?_push_of_some _ e)
  have big : s.heap.objs.size ≤ h2.objs.size := by
    show s.heap.objs.size ≤ (h1.update S _).objs.size
    rw [Heap.size_update, Heap.size_push]
    exact Nat.le_succ _
  unfold collect
  refine wpAny_bind (wpAny_runValue (codeAny_builtin F.entry_proto_collect ?_))
  rw [Around.under_plainId F.plain_proto_collect _]
  show wpAny _ A.in1 (newList [] >>= fun l => again (.builtin "list.__iadd__" ⟨[l, .ref it], []⟩)) _ _ s
  refine wpAny_bind (wpAny_newObj_type (wpAny_pure ⟨plainId_quiet F.plain_list_iadd _, codeAny_builtin F.entry_list_iadd ?_⟩))
  rw [Around.under_plainId F.plain_list_iadd _]
  show wpAny _ A.in1 (Builtin.List.listExtendWith (.ref S) (.ref it) (.ref S)) _ _ _
  have at2 := Heap.get?_update_self (Obj.mapSeq (· ++ items)) at1 rfl
  have got : wpAny (model prog w) A (do
      match (← load S).data with
        | Data.seq xs _ => pure xs.toList
        | _ => unsupported "internal:collect") R E { s with heap := h2 } := by
    refine wpAny_bind (wpAny_load at2 (wpAny_pure ?_))
    have e : ((#[] : Array Value) ++ items).toList = items.toList := by simp
    show R ((#[] : Array Value) ++ items).toList _
    rw [e]
    exact hR h2 old big
  refine wpAny_mono (wpAny_extend_seq (hsz := hz) (A := A) (R := fun r s' => r = .ok (.ret (.ref S)) ∧ s' = { s with heap := h2 }) (s := { s with heap := h1 }) S it _ 0 hT at1 (Heap.get?_push_of_some _ ho) hc hd ⟨rfl, rfl⟩) (fun fin s' h => ?_) fun e s' h => absurd h.1 (by simp)
  cases fin with
  | done f =>
    obtain ⟨e, rfl⟩ := h
    cases e
    exact got
  | again c' => exact ⟨h.1, codeAny_mono h.2 fun r s'' hr => by
      obtain ⟨rfl, rfl⟩ := hr
      exact got⟩
/-- items that the layer knows as data, as values -/
theorem sdAll (I : Inv X pins σ H s) : ∀ {bs : List VD} {us : List Value}, (∀ b ∈ bs, Dp X.K H b.1 b.2) → Vals (bs.map (·.1)) us → EachIs (Sd s.heap) us bs
  | [], _, _, .nil => .nil
  | b :: bs, _, h, .cons r t => by
    obtain ⟨as, q⟩ := Dp.reads I b.2 b.1 _ (h b List.mem_cons_self) r
    exact .cons ⟨r, as, q, ownLt q⟩ (sdAll I (fun c m => h c (List.mem_cons_of_mem _ m)) t)
theorem valsOf : ∀ {out : List Value} {cs : List VD}, EachIs (fun u (b : VD) => RelV b.1 u) out cs → Vals (cs.map (·.1)) out
  | _, _, .nil => .nil
  | _, _, .cons h t => .cons h (valsOf t)
/-- what stands behind sorted(..) -/
theorem sortEnd (I : Inv X pins σ H s) {s2 : Shared} {p : Addr} {cs : List VD} {out : List Value} {c : Nat} {Q : VK} (k : ∀ b o, s.heap.get? b = some o → s2.heap.get? b = some o) (g : s2.gens = s.gens) (o : s2.os = s.os) (hp : s.heap.objs.size ≤ p)
    (ho : s2.heap.get? p = some (seqObj "list" out.toArray c)) (e : EachIs (fun u (b : VD) => RelV b.1 u) out cs) (hz : cs.length ≤ sizeLine) (q : ∀ p, H p = none → Q (.ref p) (upd H p (.lst (cs.map (·.1))))) : EP X pins σ Q (.ref p) s2 := by
  have hn : H p = none := I.hok.fresh hp
  have J : Inv X pins σ (upd H p (.lst (cs.map (·.1)))) { s with heap := s2.heap, gens := s2.gens, drawn := s2.drawn, toks := s2.toks } :=
    I.call (ch := []) (Un.laid k hp hn) (I.hok.laid k hp ⟨by rw [List.length_map]; exact hz, out, c, valsOf e, ho⟩) (by rw [g]; exact I.bare) (fun _ z => nomatch z)
  have e2 : s2 = { s with heap := s2.heap, gens := s2.gens, drawn := s2.drawn, toks := s2.toks } := by
    cases s2
    cases s
    cases o
    rfl
  rw [e2]
  exact ⟨.ref p, _, J, rfl, q p hn⟩
abbrev srt (cs : List VD) : List VD := cs.mergeSort (dataLe false (·.2))
/-- sorted of a list or tuple of data -/
def rSortD (K : PySem.W.Frag) : List V → Hp → VK → Prop := fun vs H Q => ∃ (a : Addr) (bs : List VD), vs = [.ref a] ∧ (SqL K H a (bs.map (·.1)) ∨ SqT K H a (bs.map (·.1))) ∧ (∀ b ∈ bs, Dp K H b.1 b.2) ∧ AllAlike (bs.map (·.2)) ∧ Sortable (bs.map (·.2)) ∧
  (∀ b ∈ bs, b.2.depth ≤ 40) ∧ ∀ p, H p = none → Q (.ref p) (upd H p (.lst ((srt bs).map (·.1))))
theorem cr_sortD (hu : X.A.units + 64 < cLine) : CallR X (.builtin "sorted") (rSortD X.K) := by
  intro pins s σ H vs us Q I r h
  obtain ⟨a, bs, rfl, hs, hd, al, so, dp, q⟩ := h
  rw [Vals.ref1 r]
  have main : ∀ (its : List Value) (o : Obj) (n : Nat) (T : String), (T = "list" ∨ T = "tuple") → s.heap.get? a = some o → o.cls = .type T → o.data = .seq its.toArray n → Vals (bs.map (·.1)) its → bs.length ≤ sizeLine →
      wpAny (model X.prog X.w) X.A (call (.builtin "sorted") [.ref a]) (EP X pins σ Q) X.xe s := fun its o n T hT ho hc hdt rv hz => by
    have e := sdAll I hd rv
    refine callSorted (fun cs => cs = bs) (fun cs e => e ▸ List.Perm.refl _) al so hz (fun b hb => by have := dp b hb; omega) (fun R E hR => ?_) fun s2 p cs out c k g o1 hp ok hg eo => ?_
    · refine collectS a hT ho hc hdt (by simp only [List.size_toArray]; rw [e.length]; exact hz) (fun h' k z => ?_)
      exact hR _ _ bs k z rfl rfl rfl (by simpa using e.mono fun _ _ x => x.keeps k z)
    · subst ok
      exact sortEnd I k g o1 hp hg eo (by rw [List.length_mergeSort]; exact hz) q
  rcases hs with hs | hs
  · obtain ⟨its, rv, pl, hz⟩ := I.list hs
    obtain ⟨o, ho, hc, n, hdt⟩ := pl.isList
    exact main its o n "list" (.inl rfl) ho hc hdt rv (by rw [List.length_map] at hz; exact hz)
  · obtain ⟨its, rv, ⟨o, ho, hc, n, hdt⟩, hz⟩ := I.tuple hs
    exact main its o n "tuple" (.inr rfl) ho hc hdt rv (by rw [List.length_map] at hz; exact hz)
end
end L2.KS
end

section
set_option Elab.async false
set_option linter.all false
set_option maxRecDepth 100000
set_option maxHeartbeats 4000000
namespace L2.KS
open PySem PySem.Spec PyProof.Rows
open PySem.W (EachIs AllAlike Sortable dataLe)
/-! ### sorted(..) of a set of tuples -/
def keyData : Key → PyData
  | .inl i => .int i
  | .inr x => .str x
def tupData (k : List Key) : PyData := .tuple (k.map keyData)
theorem depKeys : ∀ k : List Key, PyData.depthAll (k.map keyData) = 0
  | [] => by simp [PyData.depthAll]
  | .inl i :: k => by simp [PyData.depthAll, keyData, PyData.depth, depKeys k]
  | .inr x :: k => by simp [PyData.depthAll, keyData, PyData.depth, depKeys k]
theorem depTup (k : List Key) : (tupData k).depth ≤ 40 := by
  have h := depKeys k
  unfold tupData
  simp only [PyData.depth]
  omega
theorem dpKeys {K : PySem.W.Frag} {H : Hp} : ∀ k : List Key, DpAll K H (k.map kV) (k.map keyData)
  | [] => .nil
  | .inl i :: k => .cons (.int i) (dpKeys k)
  | .inr x :: k => .cons (.str x) (dpKeys k)
theorem dpTup {K : PySem.W.Frag} {H : Hp} {t : Addr} {k : List Key} (h : H t = some (.tup (k.map kV))) : Dp K H (.ref t) (tupData k) := .tup (SqT.of h) (dpKeys k)
abbrev rowD (p : Addr × List Key) : VD := (.ref p.1, tupData p.2)
theorem permLift {α β : Type} {f : α → β} : ∀ {l : List α} {ys : List β}, ys.Perm (l.map f) → ∃ m : List α, ys = m.map f ∧ m.Perm l
  | [], ys, h => ⟨[], List.perm_nil.mp h, .nil⟩
  | a :: l, ys, h => by
    obtain ⟨s, t, rfl⟩ := List.append_of_mem (h.mem_iff.mpr List.mem_cons_self : f a ∈ ys)
    obtain ⟨m, e, p1⟩ := permLift (List.perm_middle.symm.trans h).cons_inv
    have es : (m.take s.length).map f = s := by rw [List.map_take, ← e, List.take_left]
    have et : (m.drop s.length).map f = t := by rw [List.map_drop, ← e, List.drop_left]
    refine ⟨m.take s.length ++ a :: m.drop s.length, by rw [List.map_append, List.map_cons, es, et], List.perm_middle.trans ?_⟩
    rw [List.take_append_drop]
    exact p1.cons a
section
variable {X : Cx}
def rSortKS (P : Program) (w : World) : List V → Hp → VK → Prop := fun vs H Q => ∃ (a : Addr) (L : KL), vs = [.ref a] ∧ H a = some (KSO P w a L) ∧ (∀ p ∈ L, H p.1 = some (.tup (p.2.map kV))) ∧ AllAlike (L.map fun p => tupData p.2) ∧ (∀ p ∈ L, p.2 ≠ []) ∧
  ∀ (L' : KL) (p : Addr), L'.Perm L → (L'.map (·.2)).Nodup → H p = none → Q (.ref p) (upd H p (.lst ((srt (L'.map rowD)).map (·.1))))
theorem cr_sortKS (hc : X.calm = true) (hu : X.A.units + 64 < cLine) : CallR X (.builtin "sorted") (rSortKS X.prog X.w) := by
  intro pins s σ H vs us Q I r h
  obtain ⟨a, L, rfl, ha, hL, al, ne, q⟩ := h
  rw [Vals.ref1 r]
  have R0 : KSet0 X.prog X.w s.heap a L := (I.hok a _ ha).1
  obtain ⟨es, ep, t, R⟩ := R0.full fun p hp => key_of I.hok (hL p hp)
  obtain ⟨o, ho, hex, hd⟩ := R.ob
  have few : L.length ≤ 76 := by
    have m := R.room
    rcases R.tab.mok with e | e | e <;> omega
  have zs := rows_size R.rows
  have e2 : (L.map rowD).map (·.2) = L.map fun p => tupData p.2 := by rw [List.map_map]; rfl
  refine callSorted (bs := L.map rowD) (fun cs => ∃ L' : KL, L'.Perm L ∧ cs = L'.map rowD) (fun cs ⟨L', p, e⟩ => e ▸ p.map _) (by rw [e2]; exact al) (by
      rw [e2]
      refine .inl fun d hd => ?_
      obtain ⟨p, hp, rfl⟩ := List.mem_map.mp hd
      cases e : p.2 with
      | nil => exact absurd e (ne p hp)
      | cons x k => exact ⟨keyData x, k.map keyData, rfl⟩) (by rw [List.length_map, sizeLine_eq]; omega) (fun b hb => by
      obtain ⟨p, hp, rfl⟩ := List.mem_map.mp hb
      have := depTup p.2
      show X.A.units + 2 + (tupData p.2).depth < cLine
      omega) (fun R' E' hR => ?_) fun s2 p cs out c k g o1 hp ok hg eo => ?_
  · refine collect_set (A := X.A.in1) (I.ok.hd hc) ⟨o, ho, hex.1, hd⟩ R.fit (by unfold scanBound; omega) R.tab.ris R.led fun s1 vs k1 z1 g1 o1 pm => ?_
    have ee : es.toList.map (·.2) = L.map fun p => Value.ref p.1 := by
      rw [R.rows, rowsK, List.map_map]
      rfl
    rw [ee] at pm
    obtain ⟨L', rfl, pL⟩ := permLift pm
    have each : ∀ M : KL, (∀ p ∈ M, p ∈ L) → EachIs (Sd s1.heap) (M.map fun p => Value.ref p.1) (M.map rowD) := fun M => by
      induction M with
      | nil => exact fun _ => .nil
      | cons p M ih =>
        intro hm
        obtain ⟨as, rd⟩ := Dp.reads I (tupData p.2) (.ref p.1) (.ref p.1) (dpTup (hL p (hm p List.mem_cons_self))) rfl
        exact .cons (Sd.keeps (h := s.heap) ⟨rfl, as, rd, ownLt rd⟩ k1 z1) (ih fun y hy => hm y (List.mem_cons_of_mem _ hy))
    exact hR s1 _ (L'.map rowD) k1 z1 g1 o1 ⟨L', pL, rfl⟩ (each L' fun p hp => pL.mem_iff.mp hp)
  · obtain ⟨L', pL, rfl⟩ := ok
    exact sortEnd I k g o1 hp hg eo (by rw [List.length_mergeSort, List.length_map, pL.length_eq, sizeLine_eq]; omega) fun p hn => q L' p pL ((pL.map _).nodup_iff.mpr R.nd) hn
end
end L2.KS
end

section
set_option Elab.async false
set_option linter.all false
set_option maxRecDepth 100000
set_option maxHeartbeats 4000000
namespace L2.KS
open PySem PySem.Spec PyProof.Rows
/-! ### dict comprehensions whose keys are tuples of ints and texts -/
section
variable {X : Cx} {pins : List (Addr × Obj)} {σ : St} {H : Hp} {s : Shared}
theorem dictSetT {E : Value → Shared → Prop} {D b : Addr} {kvs : List (List Key × V)} {k : List Key} {v : V} {r : Value} {Q : Unit → Shared → Prop} (hu : X.A.units < cLine) (I : Inv X pins σ H s) (e : H D = some (.dT kvs)) (eb : H b = some (.tup (k.map kV))) (hz : kvs.length < sizeLine) (rv : RelV v r)
    (h : ∀ s', Inv X pins σ (upd H D (.dT (putK kvs k v))) s' → Q () s') : wpAny (model X.prog X.w) X.A (dictSet D (.ref b) r) Q E s := by
  obtain ⟨z, hd, xs, rel, dd⟩ := dt_of I.hok e
  have hx : xs.length ≤ sizeLine := by rw [← Paired.length rel]; exact z
  have hl : (putK kvs k v).length ≤ sizeLine := by have := length_putK kvs k v; omega
  refine wpAny_dictSet_heap (knd := tupleKind (mixKind X.prog X.w)) (hsz := hx) hu (key_of I.hok eb) dd fun h' dd' hs => h _ ?_
  obtain ⟨q, es, ep, hq, h2, h3, h4, _, h5⟩ := dd'
  refine d_write I (by rw [e]; exact True.intro) hs ⟨q, hq⟩ ⟨hl, hd, _, (rel.put k eb rv).keeps fun c ys ec => ?_, q, es, ep, hq, h2, h3, h4, h5⟩
  rw [upd_ne (ne_of ec e (fun z => nomatch z))]
  exact ec
end
/-- what a new pair asks, and leaves -/
def PutT (D : Addr) (y z : V) (H : Hp) (N : Hp → Prop) : Prop := ∃ (b : Addr) (kvs : List (List Key × V)) (k : List Key), y = .ref b ∧ H b = some (.tup (k.map kV)) ∧ H D = some (.dT kvs) ∧ kvs.length < sizeLine ∧ N (upd H D (.dT (putK kvs k z)))
def tDictT (wi : TI) (g : TG) (tt : TT) (tk tv : TE) (vs : List Nat) : TE := fun σ H Q => wi σ H fun J H1 => ∀ D, H1 D = none →
  ∃ W : Nat → Nat → Hp → Prop, (∃ m, W 0 m (upd H1 D (.dT []))) ∧ ∀ i m H2, W i m H2 → (J.stop i H2 ∧ Q (.ref D) H2) ∨
    (J.go i H2 ∧ ∃ N : Hp → Prop, (∀ H3, N H3 → ∃ m', m' < m ∧ W (i + 1) m' H3) ∧ ∀ x H3, J.yld i H2 x H3 → g x (wipe σ vs) H3 fun σ4 H4 => wipe σ4 vs = wipe σ vs ∧ tt σ4 H4 fun b H5 => if b = true then tk σ4 H5 fun y H6 => tv σ4 H6 fun z H7 => PutT D y z H7 N else N H5)
section
variable {X : Cx}
theorem pe_dictT {kx vx tg iter : Expr} {ifs : List Expr} {scope : Scope} {own : List (PySem.Str × Nat)} {pos : Pos} {wi : TI} {g : TG} {tt : TT} {tk tv : TE} (hu : X.A.units < cLine) (hc : X.calm = true) (hN : X.N.Nodup)
    (hi : PI X tg iter wi) (ok : BlkOk X.N X.env.scope scope own)
    (hg : ∀ (s : Shared) (H : Hp) (C : Addr) (cl : List (PySem.Str × Addr)) (fp : List Addr), PG (X.blk s H scope (compEnvC scope cl C X.env) fp) tg g)
    (ht : ∀ (s : Shared) (H : Hp) (C : Addr) (cl : List (PySem.Str × Addr)) (fp : List Addr), PTs (X.blk s H scope (compEnvC scope cl C X.env) fp) ifs tt)
    (hk : ∀ (s : Shared) (H : Hp) (C : Addr) (cl : List (PySem.Str × Addr)) (fp : List Addr), PE (X.blk s H scope (compEnvC scope cl C X.env) fp) kx tk)
    (he : ∀ (s : Shared) (H : Hp) (C : Addr) (cl : List (PySem.Str × Addr)) (fp : List Addr), PE (X.blk s H scope (compEnvC scope cl C X.env) fp) vx tv)
    (hs : ∀ x, foldedSetIterable iter X.env x = pure x := by intro _; rfl) : PE X (.DictComp kx vx [⟨tg, iter, ifs, 0⟩] scope pos) (tDictT wi g tt tk tv (own.map (·.2))) := by
  refine ⟨fun pins s σ H Q I h => ?_⟩
  rw [arm_eval_DictComp]
  have cellsThere : ∀ y ∈ scope.names, y.2 = .free → ∃ c, X.env.cells.lookup y.1 = some c := fun y hy e => (ok.free y hy e).elim (fun k => I.ok.has _ (.inl k)) (fun k => I.ok.has _ (.inr k))
  refine wpAny_comprehension_free (use := none) rfl hs (closure_ok cellsThere) ok.kind (fun y hy e => by rw [ok.uniq y hy, e]) (thn (hi.run pins s σ H _ I h) fun _ s1 h1 => thn h1 fun _ s2 h2 => ?_)
  obtain ⟨it, fp, tn, J, H2, rfl, I2, T, st2, f2, q⟩ := h2
  refine wpAny_newObj_type (newEnv_comp ?_)
  have Dn : H2 s2.heap.objs.size = none := I2.hok.fresh (Nat.le_refl _)
  obtain ⟨W, ⟨m0, w0⟩, turn⟩ := q _ Dn
  -- the dict stands
  obtain ⟨D, eD⟩ : ∃ D, D = s2.heap.objs.size := ⟨_, rfl⟩
  obtain ⟨s3, e3⟩ : ∃ s3 : Shared, s3 = { s2 with heap := s2.heap.push { cls := .type "dict", data := .dict #[] } } := ⟨_, rfl⟩
  obtain ⟨H3, eH⟩ : ∃ H3, H3 = upd H2 D (.dT []) := ⟨_, rfl⟩
  rw [← eD] at w0 turn Dn
  rw [← eH] at w0
  have old : ∀ b o, s2.heap.get? b = some o → s3.heap.get? b = some o := fun b o e => by rw [e3]; exact Heap.get?_push_of_some _ e
  have I3 : Inv X pins σ H3 s3 := by
    rw [e3, eH, eD]
    exact I2.laid (t' := s2.toks) (fun b o e => Heap.get?_push_of_some _ e) (Nat.le_refl _) (dt_empty s2.heap I2.big)
  have f3 : ∀ b ∈ fp, FpOk X pins H3 b ∧ b < s3.heap.objs.size := fun b hb => by
    obtain ⟨o, e, _⟩ := T.obj _ _ st2 b hb
    have lt := Heap.lt_size e
    refine ⟨⟨?_, (f2 b hb).2⟩, Heap.lt_size (old b o e)⟩
    rw [eH, upd_ne (by rw [eD]; exact Nat.ne_of_lt lt)]
    exact (f2 b hb).1
  have st3 : tn 0 s3.heap := T.keep _ _ _ st2 fun b _ o e => old b o e
  have I4 := block_start I3 ok hN f3
  have pg := hg s3 H3 s3.heap.objs.size (cellsFrom (s3.heap.objs.size + 1) scope.names (cloFrom X.env.cells scope.names [])) fp
  have pt := ht s3 H3 s3.heap.objs.size (cellsFrom (s3.heap.objs.size + 1) scope.names (cloFrom X.env.cells scope.names [])) fp
  have pe := he s3 H3 s3.heap.objs.size (cellsFrom (s3.heap.objs.size + 1) scope.names (cloFrom X.env.cells scope.names [])) fp
  have pk := hk s3 H3 s3.heap.objs.size (cellsFrom (s3.heap.objs.size + 1) scope.names (cloFrom X.env.cells scope.names [])) fp
  rw [← eD, ← e3]
  obtain ⟨ce, ec⟩ : ∃ ce, ce = compEnvC scope (cellsFrom (s3.heap.objs.size + 1) scope.names (cloFrom X.env.cells scope.names [])) s3.heap.objs.size X.env := ⟨_, rfl⟩
  obtain ⟨s4, e4⟩ : ∃ s4 : Shared, s4 = { s3 with heap := pushCells (s3.heap.push { cls := .type "dict", data := .dict #[] }) scope.names } := ⟨_, rfl⟩
  have cL : ce.locals = s3.heap.objs.size := by rw [ec]; rfl
  rw [← ec] at I4 pg pt pe pk
  rw [← e4] at I4
  suffices body : codeAny (model X.prog X.w) X.A (.compLoop (.DictComp kx vx [⟨tg, iter, ifs, 0⟩] scope pos) 0 (.ref it) (.ref D) ce) (compPost (model X.prog X.w) X.A X.xe none (EP X pins σ Q) (.ref D) s3.heap.objs.size) s4 by
    have st4 : tn 0 s4.heap := T.keep _ _ _ st3 fun b _ o e => by rw [e4]; exact pushCells_keeps _ _ _ _ (Heap.get?_push_of_some _ e)
    have all := codeAny_compStart_dict body (T.self X.A 0 _ _ _ st4 body)
    rw [ec, e4] at all
    exact all
  have st4 : tn 0 s4.heap := T.keep _ _ _ st3 fun b _ o e => by rw [e4]; exact pushCells_keeps _ _ _ _ (Heap.get?_push_of_some _ e)
  have nf : ∀ b ∈ fp, H3 b = none := fun b hb => (f3 b hb).1.1
  -- the iterator's own things stay fit
  have fit : ∀ {σ' : St} {H' : Hp} {s' : Shared}, Inv (X.blk s3 H3 scope ce fp) [] σ' H' s' → (∀ b ∈ fp, H' b = none) → ∀ b ∈ fp, FpOk (X.blk s3 H3 scope ce fp) [] H' b := fun {σ' H' s'} J' hn b hb =>
    ⟨hn b hb, (J'.ok.exf b hb).1, J'.ok.exfs b hb, .inl hb, fun x c e => (J'.ok.exf b hb).2 x c e, fun p hp => absurd (show p ∈ ([] : List (Addr × Obj)) ++ [] from hp) (by simp)⟩
  let St (n : Nat) (s' : Shared) : Prop := ∃ i H', Inv (X.blk s3 H3 scope ce fp) [] (wipe σ (own.map (·.2))) H' s' ∧ tn i s'.heap ∧ (∀ b ∈ fp, H' b = none) ∧ W i n H'
  refine compLoop_anyD St ?_ m0 ⟨0, H3, I4, st4, nf, w0⟩
  rintro n s5 ⟨i, H5, I5, st5, n5, w5⟩
  rcases turn i n H5 w5 with ⟨stop, qq⟩ | ⟨go, N, hNx, step⟩
  · refine thnF (T.done (X.blk s3 H3 scope ce fp) rfl rfl rfl hc i [] s5 _ H5 (fun _ _ => False) I5 (fit I5 n5) st5 stop) fun r s6 ⟨hr, I6⟩ => ?_
    cases hr
    have I7 : Inv X pins σ H5 s6 := I3.call' (ch := fp) I6.os I6.base I6.hok I6.bare fun b hb => ⟨(f3 b hb).1.2.2.2.1, (f3 b hb).1.2.1, (f3 b hb).1.2.2.2.2.1, (f3 b hb).1.2.2.2.2.2⟩
    have nC : H5 s3.heap.objs.size = none := cL ▸ (show H5 ce.locals = none from I6.free)
    obtain ⟨m, hn, _⟩ := I6.loc
    have hn : s6.heap.Ns s3.heap.objs.size m := cL ▸ (show s6.heap.Ns ce.locals m from hn)
    obtain ⟨y0, y1, _, y3, y4, y5⟩ := I3.fpOk (Nat.le_refl _) nC
    exact ⟨m, hn, fun h'' sb => ⟨.ref D, H5, I7.turned (t' := s6.toks) (fun b o hb e => (sb.2 b hb).trans e) y0 y1 y3 y4 y5, rfl, qq⟩⟩
  · refine thnF (T.item (X.blk s3 H3 scope ce fp) rfl rfl rfl hc i [] s5 _ H5 (fun _ _ => False) I5 (fit I5 n5) st5 go) fun r s6 ⟨u, hr, h6⟩ => ?_
    subst hr
    refine thnF h6 fun _ s7 ⟨x, H7, I7, r7, y7, st7, n7⟩ => ?_
    refine thnF (pg.run _ s7 _ H7 x u _ (I7.pinned (fit I7 n7) (T.obj _ _ st7)) r7 (step x H7 y7)) fun _ s8 ⟨σ8, H8, I8, hw8, q8⟩ => ?_
    refine thnF (pt.run _ s8 σ8 H8 _ I8 q8) fun b s9 ⟨H9, I9, q9⟩ => ?_
    have over : ∀ {s' : Shared} {H' : Hp}, Inv (X.blk s3 H3 scope ce fp) ([] ++ pinsAt fp s7.heap) σ8 H' s' → N H' → ∃ m, m < n ∧ St m s' := fun {s' H'} J' nx => by
      obtain ⟨m', lt, w'⟩ := hNx H' nx
      have held : ∀ b ∈ fp, ∀ o, s7.heap.get? b = some o → s'.heap.get? b = some o ∧ H' b = none := fun b hb o e =>
        have z := J'.pin (b, o) (List.mem_append_right _ (List.mem_append_right _ (mem_pinsAt hb e)))
        ⟨z.1, z.2.1⟩
      refine ⟨m', lt, i + 1, H', J'.unpinned.weak (by rw [← hw8, wipe_length]) (fun j v e => ?_), T.keep _ _ _ st7 fun b hb o e => (held b hb o e).1, fun b hb => ?_, w'⟩
      · rw [← hw8] at e
        exact (wipe_some e).1
      · obtain ⟨o, e, _⟩ := T.obj _ _ st7 b hb
        exact (held b hb o e).2
    cases b with
    | false => exact over I9 (by simpa using q9)
    | true =>
      have q9 : tk σ8 H9 fun y H6 => tv σ8 H6 fun z H7 => PutT D y z H7 N := by simpa using q9
      refine thnF (pk.run _ s9 σ8 H9 _ I9 q9) fun z s10 ⟨yk, H10, I10, r10, q10⟩ => ?_
      refine thnF (pe.run _ s10 σ8 H10 _ I10 q10) fun z2 s11 ⟨yv, H11, I11, r11, b, kvs, k, ek, eb, hD11, hz, nx⟩ => ?_
      subst ek
      cases (show z = Value.ref b from r10)
      exact dictSetT (X := X.blk s3 H3 scope ce fp) hu I11 hD11 eb hz r11 fun s12 I12 => over I12 nx
end
end L2.KS
end

section
set_option Elab.async false
set_option linter.all false
set_option maxRecDepth 100000
set_option maxHeartbeats 4000000
namespace L2.Und
open PySem PySem.Spec PyProof.Rows _root_.Und
open L2.KS
open PySem.W (dataLe dataLt AllAlike Sortable)
/-! ### two texts in order -/
def strLt (x y : Str) : Bool := decide (x.cps.toList < y.cps.toList)
def asc (p : Str × Str) : Str × Str := if strLt p.2 p.1 = true then (p.2, p.1) else p
abbrev sD (x : Str) : VD := (.str x, .str x)
theorem le_str (x y : Str) : dataLe false (·.2) (sD x) (sD y) = !strLt y x := by
  show (!dataLt (.str y) (.str x)) = _
  rw [PySem.W.dataLt_str]
  rfl
theorem srtTwo (x y : Str) : srt [sD x, sD y] = [sD (asc (x, y)).1, sD (asc (x, y)).2] := by
  have h : srt [sD x, sD y] = if dataLe false (·.2) (sD x) (sD y) = true then [sD x, sD y] else [sD y, sD x] := by
    show List.mergeSort [sD x, sD y] _ = _
    simp [List.mergeSort, List.MergeSort.Internal.splitInTwo, List.merge]
  rw [h, le_str]
  unfold asc
  cases strLt y x <;> rfl
end L2.Und
end

section
set_option Elab.async false
set_option linter.all false
set_option maxRecDepth 100000
set_option maxHeartbeats 4000000
namespace L2.KS
open PySem PySem.Spec PyProof.Rows PySem.W
/-! ### enumerate(tuple) -/
set_option maxHeartbeats 1000000 in
theorem enumNew {v : Value} {o : Obj} {G : Heap → Prop} (B : Begins v o G) : Meets (Builtin.«enumerate.__new__» ⟨[.type "enumerate", v], []⟩) (fun _ R s => G s.heap ∧
    R (.ok (.ret (.ref (s.heap.push o).objs.size))) { s with heap := (s.heap.push o).push { cls := .type "enumerate", data := .fields #[.none, .bool false, .ref s.heap.objs.size, rawInt 0, .none, .none] } }) :=
  .of_wp fun prog w A R s ⟨g1, r⟩ => by
    obtain ⟨hp, g, d, tk, os⟩ := s
    have sub := sub_enumerate
    have it : ∀ {A' : Around} {E : Value → Shared → Prop} {Q : Value → Shared → Prop}, Q (.ref hp.objs.size) ⟨hp.push o, g, d, tk, os⟩ → wpAny (model prog w) A' (pyIter v) Q E ⟨hp, g, d, tk, os⟩ := fun q => B.iter prog w _ _ ⟨hp, g, d, tk, os⟩ _ g1 q
    wp_walk using it
    refine wpAny_stack_any fun st => wpAny_pure ?_
    split
    · rename_i c _ _ _ _ _
      cases (c == Value.type "enumerate") <;> (wp_walk using it; exact ⟨_, rfl, r⟩)
    · wp_walk using it
      exact ⟨_, rfl, r⟩
section
variable {prog : Program} {w : World} {A : Around} {E : Value → Shared → Prop} {s : Shared}
theorem callEnum {v : Value} {o : Obj} {G : Heap → Prop} {Q : Value → Shared → Prop} (B : Begins v o G) (g : G s.heap)
    (h : ∀ h', IsEnum h' (s.heap.objs.size + 1) s.heap.objs.size 0 .none → h'.get? s.heap.objs.size = some o → (∀ b u, s.heap.get? b = some u → h'.get? b = some u) → Q (.ref (s.heap.objs.size + 1)) { s with heap := h' }) :
    wpAny (model prog w) A (call (.type "enumerate") [v]) Q E s := by
  refine callType_new F.called_enumerate (by decide) (F.typeCall_enumerate_1 _) (F.newCall_enumerate_1 _) (fun obj => F.args_object_init_2 obj _) F.entry_enumerate_new (enumNew B) ⟨g, ?_⟩
  have z : (s.heap.push o).objs.size = s.heap.objs.size + 1 := Heap.size_push ..
  show _ ∧ _
  rw [z]
  have there := Heap.get?_push_size (s.heap.push o) (o := { cls := .type "enumerate", data := .fields #[.none, .bool false, .ref s.heap.objs.size, rawInt 0, .none, .none] }) rfl
  rw [z] at there
  exact ⟨⟨_, there, rfl⟩, h _ there (Heap.get?_push_of_some _ (Heap.get?_push_size _ B.free)) fun b u e => Heap.get?_push_of_some _ (Heap.get?_push_of_some _ e)⟩
end
/-- the tuple at a, each item in a new pair -/
def Itet (K : PySem.W.Frag) (a : Addr) : It :=
  ⟨fun i H => ∃ (xs : List V) (x : V), SqT K H a xs ∧ xs[i]? = some x, fun i H v H' => ∃ T x, v = .ref T ∧ H T = none ∧ H' = upd H T (.tup [.int (i : Nat), x]) ∧ ∀ xs, SqT K H a xs → xs[i]? = some x, fun i H => ∃ xs : List V, SqT K H a xs ∧ xs.length ≤ i⟩
theorem turnEt {P : Program} {w : World} {K : PySem.W.Frag} {elts : List Expr} {kk : Nat} {tpos : Pos} (a e it : Addr) (n1 : e ≠ it) (n2 : a ≠ it) (n3 : a ≠ e) :
    Turn P w K (.Tuple elts kk tpos) (Itet K a) [e, it] e (fun i h => (∃ old, IsEnum h e it ((i : Nat) : Int) old) ∧ h.IsTupleIter it a i) where
  mem := by simp
  obj := fun i h ⟨⟨old, he⟩, o, ho, hc, hd⟩ b hb => by
    rcases (by simpa using hb : b = e ∨ b = it) with z | z
    · rw [z]; exact ⟨_, he, fun v q => nomatch q⟩
    · rw [z]; exact ⟨o, ho, fun v q => by rw [hd] at q; cases q⟩
  keep := fun i h h' ⟨⟨old, he⟩, hi⟩ k => ⟨⟨old, k e (by simp) _ he⟩, hi.at fun o q => k it (by simp) o q⟩
  item := by
    intro X hP hw hK hc i pins s σ H E I hf ⟨⟨old, he⟩, hit⟩ hg
    subst hP hw hK
    obtain ⟨xs, x, hq, hx⟩ := hg
    obtain ⟨its, rv, p, hz⟩ := I.tuple hq
    obtain ⟨u, hu, ru⟩ := rv.get hx
    have el : e < s.heap.objs.size := Heap.lt_size he
    have il : it < s.heap.objs.size := by obtain ⟨_, q, _⟩ := hit; exact Heap.lt_size q
    have lt : i < its.toArray.size := by
      rw [List.size_toArray]
      exact (List.getElem?_eq_some_iff.mp hu).1
    refine wpAny_pyNext_enum_itemD (Draws.tuple (A := X.A.in1) (I.ok.hd hc) it a n2 its.toArray) he ⟨hit, p⟩ lt n1 (by simp [n1, Ne.symm n3]) fun y h' tk hy ho st' hT hsz hk => ?_
    have yu : y = u := Option.some.inj (hy.symm.trans (by simpa using hu))
    subst yu
    refine ⟨_, rfl, wpAny_letOwnedTupleGo_enum (s := { s with heap := h', toks := tk + 1 }) ho fun h'' he' sb => ?_⟩
    have hT2 : h''.get? s.heap.objs.size = some { cls := .type "tuple", data := .seq #[.int i tk, y] } := (sb.2 _ (Nat.ne_of_gt el)).trans hT
    have new : ObjOk X.prog X.w (upd H s.heap.objs.size (.tup [.int (i : Nat), x])) h'' s.heap.objs.size (.tup [.int (i : Nat), x]) := ⟨by show 2 ≤ sizeLine; decide, [.int i tk, y], .cons ⟨_, rfl⟩ (.cons ru .nil), ⟨_, hT2, rfl, _, rfl⟩⟩
    have I1 : Inv X pins σ (upd H s.heap.objs.size (.tup [.int (i : Nat), x])) { s with heap := h'', toks := tk + 1 } :=
      I.turnedNew (ch := [e, it]) (fun b ob hb q => (sb.2 b (fun z => hb (by simp [z]))).trans (hk b ob (fun z => hb (by simp [z])) (fun z => hb (by simp [z])) q)) hf (Nat.le_refl _) new
    refine ⟨.ref s.heap.objs.size, _, I1, rfl, ⟨_, x, rfl, I.hok.fresh (Nat.le_refl _), rfl, fun ys hy => by rw [I.tuple_inj hy hq]; exact hx⟩, ⟨⟨y, ?_⟩, st'.1.at fun o q => (sb.2 it (Ne.symm n1)).trans q⟩, fun b hb => ?_⟩
    · rw [show ((i + 1 : Nat) : Int) = (i : Int) + 1 by omega]
      exact he'
    · have lb : b < s.heap.objs.size := (by simpa using hb : b = e ∨ b = it).elim (fun z => z ▸ el) (fun z => z ▸ il)
      rw [upd_ne (Nat.ne_of_lt lb)]
      exact (hf b hb).1
  done := by
    intro X hP hw hK hc i pins s σ H E I hf ⟨⟨old, he⟩, hit⟩ hg
    subst hP hw hK
    obtain ⟨xs, hq, hx⟩ := hg
    obtain ⟨its, rv, p, hz⟩ := I.tuple hq
    obtain ⟨f0, f1, f2, f3, f4, f5⟩ := hf it (by simp)
    have l := rv.length
    have D : Draws X.prog X.w X.A.in1 it [it, a] i (fun _ _ => False) (fun j h => j = i ∧ h.IsTupleIter it a i ∧ h.IsTuple a its.toArray) :=
      { live := fun j h st => let ⟨o, ho, _⟩ := st.2.1; ⟨o, ho⟩
        frame := fun j h h' st k => ⟨st.1, st.2.1.at fun o q => k it (by simp) o q, st.2.2.at fun o q => k a (by simp) o q⟩
        item := fun j s Q E hj st _ => absurd st.1 (Nat.ne_of_lt hj)
        done := fun s Q E st hE => wpAny_nextOf_tuple_end (I.ok.hd hc) st.2.1 st.2.2 (Array.getElem?_eq_none (by rw [List.size_toArray]; omega)) hE }
    exact wpAny_pyNext_enum_endD D he ⟨rfl, hit, p⟩ fun h' eb => ⟨rfl, I.turned (t' := s.toks) (fun b o hb q => eb b o hb q) f0 f1 f3 f4 f5⟩
  self := fun A i s Q E ⟨⟨_, he⟩, _⟩ h => wpAny_pyIter_enum he h
def iEnumT (K : PySem.W.Frag) (ta : TA) : TI := fun σ H R => ta σ H fun vs H1 => ∃ a xs, vs = [.ref a] ∧ SqT K H1 a xs ∧ R (Itet K a) H1
theorem pi_enumT {X : Cx} {e : Expr} {ta : TA} {p pos tpos : Pos} {elts : List Expr} {kk : Nat} (hg : Gl X "enumerate") (hm : X.mg "enumerate" = none) (ha : PA X [e] ta) (hs : starEach [e] X.env = [(false, eval e X.env)] := by rfl) :
    PI X (.Tuple elts kk tpos) (.Call (.Name "enumerate" p) [e] [] pos) (iEnumT X.K ta) := by
  refine ⟨fun pins s σ H R I h => ?_⟩
  refine Call_ (ld_blt I hg hm boot_enumerate (PyProof.Rows.callWith_type1 (thn (ha.run pos pins s σ H _ I h) fun us s1 ⟨vs, H1, I1, r1, a, xs, ex, hq, q⟩ => ?_) hs rfl))
  subst ex
  rw [Vals.ref1 r1]
  obtain ⟨its, rv, pt, hz⟩ := I1.tuple hq
  have al : a < s1.heap.objs.size := by obtain ⟨o, ho, _⟩ := pt; exact Heap.lt_size ho
  refine callEnum (begins_tuple a its.toArray) pt fun h' he hit hk => wpAny_pyIter_enum he ?_
  refine ⟨s1.heap.objs.size + 1, [s1.heap.objs.size + 1, s1.heap.objs.size], _, _, H1, rfl, I1.kept (t' := s1.toks) hk,
    turnEt a (s1.heap.objs.size + 1) s1.heap.objs.size (Nat.succ_ne_self _) (Nat.ne_of_lt al) (Nat.ne_of_lt (Nat.lt_succ_of_lt al)), ⟨⟨.none, he⟩, ⟨_, hit, rfl, rfl⟩⟩, fun b hb => ?_, q⟩
  have le : s1.heap.objs.size ≤ b := by
    rcases (by simpa using hb : b = s1.heap.objs.size + 1 ∨ b = s1.heap.objs.size) with z | z
    · rw [z]; exact Nat.le_succ _
    · rw [z]; exact Nat.le_refl _
  exact I1.fpOk le (I1.hok.fresh le)
/-- over whichever of the two -/
theorem walkEt {K : PySem.W.Frag} {a : Addr} {xs : List V} : L2.Walk (Itet K a) xs.length (fun H => SqT K H a xs) (L2.YPair (fun i => some (.int (i : Nat))) (fun i => xs[i]?)) := by
  refine ⟨fun i _ hi q => ⟨xs, xs[i], q, by simp [hi]⟩, fun _ q => ⟨xs, q, Nat.le_refl _⟩, fun i H v H' _ q y => ?_⟩
  obtain ⟨T, x, h1, h2, h3, h4⟩ := y
  exact ⟨T, .int (i : Nat), x, h1, h2, h3, rfl, h4 xs q⟩
/-- one way of walking, or another -/
theorem pi_or {X : Cx} {tg iter : Expr} {w1 w2 : TI} (h1 : PI X tg iter w1) (h2 : PI X tg iter w2) : PI X tg iter (fun σ H R => w1 σ H R ∨ w2 σ H R) :=
  ⟨fun pins s σ H R I h => h.elim (fun z => h1.run pins s σ H R I z) (fun z => h2.run pins s σ H R I z)⟩
end L2.KS
end

section
set_option Elab.async false
set_option linter.all false
set_option maxRecDepth 100000
set_option maxHeartbeats 4000000
namespace L2.Und
open PySem PySem.Spec PyProof.Rows _root_.Und
open L2.KS
/-! ### lists or tuples alike -/
abbrev SqA (K : PySem.W.Frag) (H : Hp) (a : Addr) (xs : List V) : Prop := SqL K H a xs ∨ SqT K H a xs
theorem SqA.same {K : PySem.W.Frag} {H H' : Hp} {a : Addr} {xs : List V} (h : SqA K H a xs) (s : Same H H') : SqA K H' a xs := h.elim (fun z => .inl (s.seq z)) (fun z => .inr (Same.tup s z))
/-- t[lo:hi] of a list or tuple -/
def rSlB (K : PySem.W.Frag) : V → Option Int → Option Int → Hp → VK → Prop := fun x lo hi H Q => ∃ a xs, x = .ref a ∧ SqA K H a xs ∧ ∀ (p : Addr) (H' : Hp), Same H H' → SqA K H' p (cutV xs lo hi) → Q (.ref p) H'
theorem slB {K : PySem.W.Frag} {x : V} {lo hi : Option Int} {H : Hp} {Q : VK} (h : rSlB K x lo hi H Q) : rSlL K x lo hi H Q ∨ rSlA K x lo hi H Q := by
  obtain ⟨a, xs, rfl, hs | hs, q⟩ := h
  · exact .inl ⟨a, xs, rfl, hs, fun p hp => q p _ (sameNew hp) (.inl (SqL.of upd_same))⟩
  · refine .inr ⟨a, xs, rfl, hs, fun w => q a H (Same.refl H) (.inr ?_), fun _ p hp => q p _ (sameNew hp) (.inr (SqT.of upd_same))⟩
    unfold cutV
    rw [w.1, w.2, List.drop_zero, Nat.sub_zero, List.take_length]
    exact hs
theorem sl_any {X : Cx} : SlR X (rSlB X.K) := fun pins s σ H x v vl vu lo hi sl Q I rx hs pl pu h => SlR.or sl_list sl_tupA pins s σ H x v vl vu lo hi sl Q I rx hs pl pu (slB h)
/-- for i, x in enumerate(..) of a list or tuple -/
def iEnumA (K : PySem.W.Frag) (ta : TA) : TI := fun σ H R => iEnum K ta σ H R ∨ iEnumT K ta σ H R
theorem pi_enumA {X : Cx} {e : Expr} {ta : TA} {p pos tpos : Pos} {elts : List Expr} {kk : Nat} (hg : Gl X "enumerate") (hm : X.mg "enumerate" = none) (ha : PA X [e] ta) (hs : starEach [e] X.env = [(false, eval e X.env)] := by rfl) :
    PI X (.Tuple elts kk tpos) (.Call (.Name "enumerate" p) [e] [] pos) (iEnumA X.K ta) := pi_or (pi_enum hg hm ha hs) (pi_enumT hg hm ha hs)
/-! ### the kinds that are not -/
def badAt (ks : List Str) (i : Nat) : Bool := match ks[i]? with
  | some k => !IsName k || decide (k ∈ ks.take i)
  | none => false
def firstBad (ks : List Str) : Option Nat := (List.range ks.length).find? (badAt ks)
def kindsBad (ks : List Str) : Option (Str × Int) := if 1 ≤ ks.length ∧ ks.length ≤ 12 then (firstBad ks).map fun i => ("name", (i : Int)) else some ("count", -1)
theorem firstBad_at {ks : List Str} {i : Nat} (h : i < ks.length) (hb : badAt ks i = true) (hn : ∀ j, j < i → badAt ks j = false) : firstBad ks = some i := find_range (badAt ks) h hb hn
theorem firstBad_none {ks : List Str} (hn : ∀ j, j < ks.length → badAt ks j = false) : firstBad ks = none := find_range_none (badAt ks) hn
theorem cutA {ks : List Str} {i : Nat} (h : i ≤ ks.length) : cutV (ks.map V.str) none (some (i : Int)) = (ks.take i).map V.str := cutTake h
/-! ### the pairs that are not -/
abbrev RL := List (Addr × List Str)
def isPr (ks : List Str) : List Str → Bool
  | [x, y] => decide (x ≠ y) && decide (x ∈ ks) && decide (y ∈ ks)
  | _ => false
def pairBadAt (ks : List Str) (ps : List (List Str)) (i : Nat) : Bool := match ps[i]? with
  | some p => !isPr ks p
  | none => false
def pairsBad (ks : List Str) (ps : List (List Str)) : Option Nat := (List.range ps.length).find? (pairBadAt ks ps)
theorem pairsBad_at {ks : List Str} {ps : List (List Str)} {i : Nat} (h : i < ps.length) (hb : pairBadAt ks ps i = true) (hn : ∀ j, j < i → pairBadAt ks ps j = false) : pairsBad ks ps = some i := find_range (pairBadAt ks ps) h hb hn
theorem pairsBad_none {ks : List Str} {ps : List (List Str)} (hn : ∀ j, j < ps.length → pairBadAt ks ps j = false) : pairsBad ks ps = none := find_range_none (pairBadAt ks ps) hn
end L2.Und
end

section
set_option Elab.async false
set_option linter.all false
set_option maxRecDepth 100000
set_option maxHeartbeats 4000000
namespace L2.Und
open PySem PySem.Spec PyProof.Rows _root_.Und
open L2.KS
open PySem.W (dataLe dataLt AllAlike Sortable)
/-! ### ascending, is_pair of the program -/
abbrev sAsc : Stmt := topS 12
theorem scAsc : FnScope ["pair"] ["pair"] (defScope sAsc) := ⟨rfl, rfl, rfl, by decide +kernel, rfl, by decide +kernel, by decide +kernel⟩
def spAsc (K : PySem.W.Frag) : Sp := fun vs H Q _ => ∃ (a : Addr) (x y : Str), vs = [.ref a] ∧ (SqL K H a [.str x, .str y] ∨ SqT K H a [.str x, .str y]) ∧
  ∀ (p : Addr) (H' : Hp), H p = none → Same H H' → H' p = some (.tup [.str (asc (x, y)).1, .str (asc (x, y)).2]) → Q (.ref p) H'
section
variable {P : Program} {w : World} {K : PySem.W.Frag} {mg : Str → Option Value} {base : Heap}
theorem okAsc {f : Addr} {fd : FuncData} (F : Fun K "ascending" "ascending" sAsc f fd) (mT : mg "tuple" = none) (mS : mg "sorted" = none) : FnOk P w K mg base CX0 1 f fd ["pair"] (spAsc K) := by
  refine F.ok scAsc (fun vs H Q E h => ?_) (fun cdv A outer s H vs Q E hr h => ?_)
  · obtain ⟨a, x, y, rfl, _⟩ := h
    rfl
  have hu : (A.deeper (envOfC "ascending" (defScope sAsc) s.heap.objs.size f cdv)).units + 64 < cLine := by have := hr.un; omega
  have bS : bootBuiltins ("sorted" : Str) = some (.builtin "sorted") := by decide +kernel
  refine ⟨_, pss_one (ps_ret (pe_callTy call_tuple_of rfl mT PyProof.Rows.Boot.«tuple» (pa_cons (pe_callB (cr_sortD hu) rfl mS bS (pa_cons (pv 0) pa_nil)) pa_nil))), ?_⟩
  obtain ⟨a, x, y, rfl, hs, q⟩ := h
  refine ⟨_, rfl, a, [sD x, sD y], rfl, hs, ?_, ?_, ?_, ?_, fun p hp => ?_⟩
  · intro b hb
    rcases List.mem_cons.mp hb with rfl | hb
    · exact .str x
    · rw [List.mem_singleton.mp hb]
      exact .str y
  · intro d hd d' hd'
    have all : ∀ d ∈ [sD x, sD y].map (·.2), ∃ z, d = PyData.str z := fun d hd => by
      rcases List.mem_cons.mp hd with rfl | hd
      · exact ⟨x, rfl⟩
      · exact ⟨y, List.mem_singleton.mp hd⟩
    obtain ⟨z, rfl⟩ := all d hd
    obtain ⟨z', rfl⟩ := all d' hd'
    simp [PySem.W.alike]
  · refine .inr fun d hd => ?_
    rcases List.mem_cons.mp hd with rfl | hd
    · exact ⟨fun z => (nomatch z), fun _ z => (nomatch z)⟩
    · rw [List.mem_singleton.mp hd]
      exact ⟨fun z => (nomatch z), fun _ z => (nomatch z)⟩
  · intro b hb
    rcases List.mem_cons.mp hb with rfl | hb
    · simp [PyData.depth]
    · rw [List.mem_singleton.mp hb]
      simp [PyData.depth]
  · rw [srtTwo]
    have s1 := sameNew (o := .lst ([sD (asc (x, y)).1, sD (asc (x, y)).2].map (·.1))) hp
    refine ⟨p, _, rfl, .inl ⟨SqL.of upd_same, fun l hl => ?_⟩⟩
    exact q l _ (s1.free hl) (s1.trans (sameNew hl)) upd_same
abbrev sIsPair : Stmt := topS 13
theorem scIsPair : FnScope ["pair", "kinds"] ["pair", "kinds"] (defScope sIsPair) := ⟨rfl, rfl, rfl, by decide +kernel, rfl, by decide +kernel, by decide +kernel⟩
def spIsPair (K : PySem.W.Frag) : Sp := fun vs H Q _ => ∃ (a b : Addr) (xs ks : List Str), vs = [.ref a, .ref b] ∧ (SqL K H a (xs.map V.str) ∨ SqT K H a (xs.map V.str)) ∧ (SqL K H b (ks.map V.str) ∨ SqT K H b (ks.map V.str)) ∧ Q (.bl (isPr ks xs)) H
theorem inStr (x : Str) : ∀ ks : List Str, inV (.str x) (ks.map V.str) = decide (x ∈ ks)
  | [] => rfl
  | y :: ks => by
    have ih := inStr x ks
    unfold inV at ih ⊢
    rw [List.map_cons, List.any_cons, ih]
    show ((y == x) || decide (x ∈ ks)) = decide (x ∈ y :: ks)
    by_cases h : y = x
    · subst h; simp
    · have h' : ¬ x = y := fun e => h e.symm
      simp [h, h']
theorem flatStr : ∀ ks : List Str, (ks.map V.str).all flatV = true
  | [] => rfl
  | _ :: ks => by
    rw [List.map_cons, List.all_cons, flatStr ks]
    rfl
theorem okIsPair {f : Addr} {fd : FuncData} (F : Fun K "is_pair" "is_pair" sIsPair f fd) (mL : mg "len" = none) : FnOk P w K mg base CX0 1 f fd ["pair", "kinds"] (spIsPair K) := by
  refine F.ok scIsPair (fun vs H Q E h => ?_) (fun cdv A outer s H vs Q E hr h => ?_)
  · obtain ⟨a, b, xs, ks, rfl, _⟩ := h
    rfl
  refine ⟨_, pss_one (ps_ret (pe_and (pe_cmpR op_eq (pe_callB call_len_seq rfl mL PySem.boot_len (pa_cons (pv 0) pa_nil)) pe_int (nomark _))
    (pe_and (pe_cmpR op_ne (pe_ix ix_seq (pv 0) pe_int (fun _ _ => rfl)) (pe_ix ix_seq (pv 0) pe_int (fun _ _ => rfl)) (nomark _))
    (pe_and (pe_cmpR op_in_seq (pe_ix ix_seq (pv 0) pe_int (fun _ _ => rfl)) (pv 1) rfl)
    (pe_one (pe_cmpR op_in_seq (pe_ix ix_seq (pv 0) pe_int (fun _ _ => rfl)) (pv 1) rfl)))))), ?_⟩
  obtain ⟨a, b, xs, ks, rfl, hs, hk, q⟩ := h
  refine ⟨_, rfl, a, _, rfl, hs, rfl, _, rfl, ?_⟩
  have at_ : ∀ {i : Nat} {y : Str} {R : VK}, xs[i]? = some y → R (.str y) H → rIx K (.ref a) (.int (i : Int)) H R := fun {i y R} hy r => by
    have e : atI (xs.map V.str) ((i : Nat) : Int) = some (.str y) := atI_nat (by rw [List.getElem?_map, hy]; rfl)
    rcases hs with hs | hs
    · exact .inl ⟨a, _, _, _, rfl, rfl, hs, e, r⟩
    · exact .inr (.inl ⟨a, _, _, _, rfl, rfl, hs, e, r⟩)
  by_cases two : xs.length = 2
  · obtain ⟨x, y, rfl⟩ : ∃ x y, xs = [x, y] := by
      match xs, two with
      | [x, y], _ => exact ⟨x, y, rfl⟩
    refine iteT ?_
    refine ⟨_, rfl, at_ (i := 0) rfl ⟨_, rfl, at_ (i := 1) rfl ⟨rfl, _, rfl, ?_⟩⟩⟩
    have ne : (!decide ((V.str x) = V.str y)) = decide (x ≠ y) := by
      by_cases h : x = y
      · subst h; simp
      · have h' : ¬ (V.str x = V.str y) := fun e => h (V.str.inj e)
        rw [decide_eq_false h', decide_eq_true h]
        rfl
    have i1 : (if false = true then !inV (V.str x) (ks.map V.str) else inV (V.str x) (ks.map V.str)) = decide (x ∈ ks) := by rw [if_neg Bool.false_ne_true, inStr]
    have i2 : (if false = true then !inV (V.str y) (ks.map V.str) else inV (V.str y) (ks.map V.str)) = decide (y ∈ ks) := by rw [if_neg Bool.false_ne_true, inStr]
    have e : isPr ks [x, y] = (decide (x ≠ y) && decide (x ∈ ks) && decide (y ∈ ks)) := rfl
    rw [e] at q
    refine ite2 (fun k => ?_) (fun k => ?_)
    · have k : (!decide ((V.str x) = V.str y)) = true := k
      rw [ne] at k
      rw [k, Bool.true_and] at q
      refine ⟨_, rfl, at_ (i := 0) rfl ⟨_, rfl, b, _, rfl, hk, rfl, flatStr ks, _, rfl, ?_⟩⟩
      rw [i1]
      refine ite2 (fun k1 => ?_) (fun k1 => ?_)
      · have k1 : decide (x ∈ ks) = true := k1
        rw [k1, Bool.true_and] at q
        refine ⟨_, rfl, at_ (i := 1) rfl ⟨_, rfl, b, _, rfl, hk, rfl, flatStr ks, ?_⟩⟩
        rw [i2]
        exact q
      · have k1 : decide (x ∈ ks) = false := by simpa using k1
        rw [k1, Bool.false_and] at q
        exact q
    · have k : (!decide ((V.str x) = V.str y)) = false := by
        have k : ¬ (!decide ((V.str x) = V.str y)) = true := k
        simpa using k
      rw [ne] at k
      rw [k, Bool.false_and, Bool.false_and] at q
      exact q
  · have e : isPr ks xs = false := by
      match xs, two with
      | [], _ => rfl
      | [_], _ => rfl
      | [_, _], h => exact absurd rfl h
      | _ :: _ :: _ :: _, _ => rfl
    rw [e] at q
    have t : decide (V.int ((xs.map V.str).length : Int) = V.int 2) = false := by
      rw [List.length_map]
      refine decide_eq_false fun z => two ?_
      have := V.int.inj z
      omega
    show if decide (V.int ((xs.map V.str).length : Int) = V.int 2) = true then _ else _
    rw [t]
    exact iteF q
end
end L2.Und
end

section
set_option Elab.async false
set_option linter.all false
set_option maxRecDepth 100000
set_option maxHeartbeats 4000000
namespace L2.Und
open PySem PySem.Spec PyProof.Rows _root_.Und
open L2.KS
open PySem.W (findIn keepIn typeIn subIn)
/-! ### check_kinds of the program -/
/-- an error class of two fields, as a raise wants it -/
structure Two2 (P : Program) (w : World) (K : PySem.W.Frag) (mg : Str → Option Value) (base : Heap) (X x y : Str) (C : Addr) : Prop where
  g : mg X = some (.ref C)
  T : ErrC K C
  ty : typeIn K (.ref C) = some (.type "type")
  run : ∃ fI fd, findIn K (.ref C) "__init__" = some (some (.ref fI)) ∧ typeIn K (.ref fI) = some (.type "function") ∧ FnOk P w K mg base CX0 1 fI fd ["self", x, y] (spIni C 2 (fld2 x y)) ∧ Binds K fd ["self", x, y] []
abbrev sCheckK : Stmt := topS 14
theorem scCheckK : FnScope ["kinds", "at", "kind"] ["kinds"] (defScope sCheckK) := ⟨rfl, rfl, rfl, by decide +kernel, rfl, by decide +kernel, by decide +kernel⟩
def spCheckK (K : PySem.W.Frag) (C : Addr) : Sp := fun vs H Q E => ∃ (a : Addr) (ks : List Str), vs = [.ref a] ∧ SqA K H a (ks.map V.str) ∧ ks.length ≤ 1000 ∧ (∀ k ∈ ks, k.length ≤ 1000) ∧
  (kindsBad ks = none → ∀ H', Same H H' → Q .non H') ∧
  ∀ t i, kindsBad ks = some (t, i) → ∀ (d : Addr) (H' : Hp), H d = none → Same H H' → H' d = some (.xd [("at", .int i), ("word", .str t)]) → E (.ref C) (some d) H'
section
variable {P : Program} {w : World} {K : PySem.W.Frag} {mg : Str → Option Value} {base : Heap}
theorem okCheckK {f fN C : Addr} {fd fdN : FuncData} {t : Tok} (F : Fun K "check_kinds" "check_kinds" sCheckK f fd) (T : Two2 P w K mg base "InvalidTable" "word" "at" C)
    (GN : FnOk P w K mg base CX0 1 fN fdN ["text"] spIsName) (mN : mg "is_name" = some (.ref fN)) (kN : keepIn K (.ref fN) = true) (bN : Binds K fdN ["text"] [])
    (mL : mg "len" = none) (mE : mg "enumerate" = none) (mM : mg "MOST_KINDS" = some (.int 12 t)) : FnOk P w K mg base (L2.CX P w) 3 f fd ["kinds"] (spCheckK K C) := by
  refine F.okX scCheckK (fun vs H Q E h => ?_) (fun cdv A outer s H vs Q E hr h => ?_)
  · obtain ⟨a, ks, rfl, _⟩ := h
    rfl
  have hr1 : Room 1 (A.deeper (envOfC "check_kinds" (defScope sCheckK) s.heap.objs.size f cdv)) := hr.mono (by decide)
  obtain ⟨fI, fdI, iC, tI, FI, bI⟩ := T.run
  refine ⟨_, pss_cons (ps_if (pt_not (pt_chain op_le op_le pe_int (pe_callB call_len_seq rfl mL PySem.boot_len (pa_cons (pv 0) pa_nil)) (pe_glob (v := .int 12) rfl mM ⟨t, rfl⟩)))
        (pss_one (ps_raise rfl (takes_of rfl rfl rfl rfl) (pmkErr T.T T.ty iC tI FI hr bI (by decide) rfl T.g (pa_cons pe_str (pa_cons (pe_un un_neg pe_int) pa_nil))))) pss_nil)
    (pss_one (ps_for PassesOwn.leaving rfl (pi_enumA rfl mE (pa_cons (pv 0) pa_nil)) (pg_tup rfl (pgs_cons (pg_name (i := 1) scCheckK.nd rfl (Or.inl rfl)) (pgs_cons (pg_name (i := 2) scCheckK.nd rfl (Or.inl rfl)) pgs_nil)))
      (pss_one (ps_if (PW.pt (pw_or (pt_not (pt_val (pe_call GN hr1 rfl mN kN bN .nil pass0 (pa_cons (pv 2) pa_nil))))
          (pw_or1 (pt_cmpR op_in_seq (pv 2) (pe_slice sl_any (pv 0) po_none (po_some (pv 1))) rfl))))
        (pss_one (ps_raise rfl (takes_of rfl rfl rfl rfl) (pmkErr T.T T.ty iC tI FI hr bI (by decide) rfl T.g (pa_cons pe_str (pa_cons (pv 1) pa_nil))))) pss_nil)))), ?_⟩
  obtain ⟨a, ks, rfl, hs, hl, hkl, q0, qE⟩ := h
  have cnt : ¬ (1 ≤ ks.length ∧ ks.length ≤ 12) → kindsBad ks = some (("count" : Str), (-1 : Int)) := fun z => if_neg z
  refine ⟨_, rfl, a, _, rfl, hs, _, _, rfl, rfl, _, rfl, ?_⟩
  rw [List.length_map]
  refine ite2 (fun c1 => ?_) (fun c1 => ?_)
  · have g1 : 1 ≤ ks.length := by
      have z : (1 : Int) ≤ (ks.length : Int) := of_decide_eq_true c1
      omega
    refine ⟨_, _, rfl, rfl, _, rfl, ?_⟩
    by_cases g2 : ks.length ≤ 12
    · have e : (!decide ((ks.length : Int) ≤ 12)) = false := by rw [decide_eq_true (by omega)]; rfl
      show if (!decide ((ks.length : Int) ≤ 12)) = true then _ else _
      rw [e]
      refine iteF ?_
      rcases hs with hs | hs
      · refine .inl ⟨_, rfl, a, _, rfl, hs, for_it (walk_enum (K := K) (a := a) (xs := ks.map V.str)) (fun i σ H' => ∃ x1 x2 : Option V, σ = [some (.ref a), x1, x2] ∧ Same H H' ∧ ∀ j, j < i → badAt ks j = false) ⟨_, _, rfl, Same.refl H, fun j z => absurd z (Nat.not_lt_zero j)⟩
          (fun i σ H' _ ⟨_, _, _, s, _⟩ => s.seq hs) ?_ ?_⟩
        · rintro i x σ H3 H4 hi ⟨x1, x2, rfl, s3, okj⟩ ⟨T0, y1, y2, rfl, hT, rfl, e1, e2⟩
          rw [List.length_map] at hi
          obtain ⟨k, hk, rfl⟩ : ∃ k, ks[i]? = some k ∧ y2 = V.str k := by
            have y3 : (ks.map V.str)[i]? = some y2 := e2
            rw [List.getElem?_map] at y3
            cases e : ks[i]? with
            | none => rw [e] at y3; cases y3
            | some z => rw [e] at y3; exact ⟨z, rfl, (Option.some.inj y3).symm⟩
          obtain rfl : y1 = V.int (i : Nat) := (Option.some.inj e1).symm
          have s4 := s3.trans (sameNew (o := .tup [V.int (i : Nat), V.str k]) hT)
          refine ⟨T0, _, rfl, SqT.of upd_same, rfl, _, _, rfl, _, _, rfl, rfl, ?_⟩
          have bad : badAt ks i = (!IsName k || decide (k ∈ ks.take i)) := by
            unfold badAt
            rw [hk]
          have fb : badAt ks i = true → kindsBad ks = some (("name" : Str), (i : Int)) := fun z => by
            unfold kindsBad
            rw [if_pos ⟨g1, g2⟩, firstBad_at hi z okj]
            rfl
          refine ⟨_, rfl, k, rfl, hkl k (List.mem_of_getElem? hk), fun H5 s5 => ⟨_, rfl, ?_⟩⟩
          have s45 := s4.trans s5
          refine ite2 (fun n => ?_) (fun n => ?_)
          · have n : (!IsName k) = true := n
            refine iteT ⟨_, rfl, rfl, fun d H6 n6 s6 e6 => ?_⟩
            exact qE "name" i (fb (by rw [bad, n, Bool.true_or])) d H6 (s45.free n6) (s45.trans s6) e6
          · have n : (!IsName k) = false := by
              have n : ¬ (!IsName k) = true := n
              simpa using n
            refine ⟨_, rfl, _, rfl, _, rfl, _, rfl, a, _, rfl, SqA.same (.inl hs) s45, fun p H6 s6 hp => ?_⟩
            rw [cutA (Nat.le_of_lt hi)] at hp
            refine ⟨p, _, rfl, hp, rfl, flatStr _, _, rfl, ?_⟩
            have e : (if false = true then !inV (V.str k) ((ks.take i).map V.str) else inV (V.str k) ((ks.take i).map V.str)) = decide (k ∈ ks.take i) := by rw [if_neg Bool.false_ne_true, inStr]
            rw [e]
            have s46 := s45.trans s6
            refine ite2 (fun m => ?_) (fun m => ?_)
            · have m : decide (k ∈ ks.take i) = true := m
              refine ⟨_, rfl, rfl, fun d H7 n7 s7 e7 => ?_⟩
              exact qE "name" i (fb (by rw [bad, m, Bool.or_true])) d H7 (s46.free n7) (s46.trans s7) e7
            · have m : decide (k ∈ ks.take i) = false := by simpa using m
              refine ⟨_, _, rfl, s46, fun j hj => ?_⟩
              rcases Nat.lt_succ_iff_lt_or_eq.mp hj with hj | rfl
              · exact okj j hj
              · rw [bad, n, m]
                rfl
        · rintro σ H3 ⟨x1, x2, rfl, s3, okj⟩
          rw [List.length_map] at okj
          refine q0 ?_ H3 s3
          unfold kindsBad
          rw [if_pos ⟨g1, g2⟩, firstBad_none okj]
          rfl
      · refine .inr ⟨_, rfl, a, _, rfl, hs, for_it (walkEt (K := K) (a := a) (xs := ks.map V.str)) (fun i σ H' => ∃ x1 x2 : Option V, σ = [some (.ref a), x1, x2] ∧ Same H H' ∧ ∀ j, j < i → badAt ks j = false) ⟨_, _, rfl, Same.refl H, fun j z => absurd z (Nat.not_lt_zero j)⟩
          (fun i σ H' _ ⟨_, _, _, s, _⟩ => Same.tup s hs) ?_ ?_⟩
        · rintro i x σ H3 H4 hi ⟨x1, x2, rfl, s3, okj⟩ ⟨T0, y1, y2, rfl, hT, rfl, e1, e2⟩
          rw [List.length_map] at hi
          obtain ⟨k, hk, rfl⟩ : ∃ k, ks[i]? = some k ∧ y2 = V.str k := by
            have y3 : (ks.map V.str)[i]? = some y2 := e2
            rw [List.getElem?_map] at y3
            cases e : ks[i]? with
            | none => rw [e] at y3; cases y3
            | some z => rw [e] at y3; exact ⟨z, rfl, (Option.some.inj y3).symm⟩
          obtain rfl : y1 = V.int (i : Nat) := (Option.some.inj e1).symm
          have s4 := s3.trans (sameNew (o := .tup [V.int (i : Nat), V.str k]) hT)
          refine ⟨T0, _, rfl, SqT.of upd_same, rfl, _, _, rfl, _, _, rfl, rfl, ?_⟩
          have bad : badAt ks i = (!IsName k || decide (k ∈ ks.take i)) := by
            unfold badAt
            rw [hk]
          have fb : badAt ks i = true → kindsBad ks = some (("name" : Str), (i : Int)) := fun z => by
            unfold kindsBad
            rw [if_pos ⟨g1, g2⟩, firstBad_at hi z okj]
            rfl
          refine ⟨_, rfl, k, rfl, hkl k (List.mem_of_getElem? hk), fun H5 s5 => ⟨_, rfl, ?_⟩⟩
          have s45 := s4.trans s5
          refine ite2 (fun n => ?_) (fun n => ?_)
          · have n : (!IsName k) = true := n
            refine iteT ⟨_, rfl, rfl, fun d H6 n6 s6 e6 => ?_⟩
            exact qE "name" i (fb (by rw [bad, n, Bool.true_or])) d H6 (s45.free n6) (s45.trans s6) e6
          · have n : (!IsName k) = false := by
              have n : ¬ (!IsName k) = true := n
              simpa using n
            refine ⟨_, rfl, _, rfl, _, rfl, _, rfl, a, _, rfl, SqA.same (.inr hs) s45, fun p H6 s6 hp => ?_⟩
            rw [cutA (Nat.le_of_lt hi)] at hp
            refine ⟨p, _, rfl, hp, rfl, flatStr _, _, rfl, ?_⟩
            have e : (if false = true then !inV (V.str k) ((ks.take i).map V.str) else inV (V.str k) ((ks.take i).map V.str)) = decide (k ∈ ks.take i) := by rw [if_neg Bool.false_ne_true, inStr]
            rw [e]
            have s46 := s45.trans s6
            refine ite2 (fun m => ?_) (fun m => ?_)
            · have m : decide (k ∈ ks.take i) = true := m
              refine ⟨_, rfl, rfl, fun d H7 n7 s7 e7 => ?_⟩
              exact qE "name" i (fb (by rw [bad, m, Bool.or_true])) d H7 (s46.free n7) (s46.trans s7) e7
            · have m : decide (k ∈ ks.take i) = false := by simpa using m
              refine ⟨_, _, rfl, s46, fun j hj => ?_⟩
              rcases Nat.lt_succ_iff_lt_or_eq.mp hj with hj | rfl
              · exact okj j hj
              · rw [bad, n, m]
                rfl
        · rintro σ H3 ⟨x1, x2, rfl, s3, okj⟩
          rw [List.length_map] at okj
          refine q0 ?_ H3 s3
          unfold kindsBad
          rw [if_pos ⟨g1, g2⟩, firstBad_none okj]
          rfl
    · have e : (!decide ((ks.length : Int) ≤ 12)) = true := by rw [decide_eq_false (by omega)]; rfl
      show if (!decide ((ks.length : Int) ≤ 12)) = true then _ else _
      rw [e]
      exact iteT ⟨_, rfl, rfl, fun d H2 n1 s1 e1 => qE "count" (-1) (cnt fun z => g2 z.2) d H2 n1 s1 e1⟩
  · have g1 : ¬ 1 ≤ ks.length := fun z => c1 (decide_eq_true (by show (1 : Int) ≤ (ks.length : Int); omega))
    refine ⟨_, rfl, iteT ⟨_, rfl, rfl, fun d H2 n1 s1 e1 => qE "count" (-1) (cnt fun z => g1 z.1) d H2 n1 s1 e1⟩⟩
end
end L2.Und
end

section
set_option Elab.async false
set_option linter.all false
set_option maxRecDepth 100000
set_option maxHeartbeats 4000000
namespace L2.Und
open PySem PySem.Spec PyProof.Rows _root_.Und
open L2.KS
open PySem.W (findIn keepIn typeIn subIn)
/-! ### check_pairs of the program -/
abbrev sCheckP : Stmt := topS 15
theorem scCheckP : FnScope ["kinds", "pairs", "at", "pair"] ["kinds", "pairs"] (defScope sCheckP) := ⟨rfl, rfl, rfl, by decide +kernel, rfl, by decide +kernel, by decide +kernel⟩
def spCheckP (K : PySem.W.Frag) (C : Addr) : Sp := fun vs H Q E => ∃ (a b : Addr) (ks : List Str) (ps : RL), vs = [.ref a, .ref b] ∧ SqA K H a (ks.map V.str) ∧ SqA K H b (ps.map fun e => V.ref e.1) ∧ (∀ e ∈ ps, SqA K H e.1 (e.2.map V.str)) ∧
  (pairsBad ks (ps.map (·.2)) = none → ∀ H', Same H H' → Q .non H') ∧
  ∀ i : Nat, pairsBad ks (ps.map (·.2)) = some i → ∀ (d : Addr) (H' : Hp), H d = none → Same H H' → H' d = some (.xd [("at", .int (i : Int)), ("word", .str "pair")]) → E (.ref C) (some d) H'
section
variable {P : Program} {w : World} {K : PySem.W.Frag} {mg : Str → Option Value} {base : Heap}
theorem okCheckP {f fN C : Addr} {fd fdN : FuncData} (F : Fun K "check_pairs" "check_pairs" sCheckP f fd) (T : Two2 P w K mg base "InvalidTable" "word" "at" C)
    (GN : FnOk P w K mg base CX0 1 fN fdN ["pair", "kinds"] (spIsPair K)) (mN : mg "is_pair" = some (.ref fN)) (kN : keepIn K (.ref fN) = true) (bN : Binds K fdN ["pair", "kinds"] [])
    (mE : mg "enumerate" = none) : FnOk P w K mg base (L2.CX P w) 3 f fd ["kinds", "pairs"] (spCheckP K C) := by
  refine F.okX scCheckP (fun vs H Q E h => ?_) (fun cdv A outer s H vs Q E hr h => ?_)
  · obtain ⟨a, b, ks, ps, rfl, _⟩ := h
    rfl
  have hr1 : Room 1 (A.deeper (envOfC "check_pairs" (defScope sCheckP) s.heap.objs.size f cdv)) := hr.mono (by decide)
  obtain ⟨fI, fdI, iC, tI, FI, bI⟩ := T.run
  refine ⟨_, pss_one (ps_for PassesOwn.leaving rfl (pi_enumA rfl mE (pa_cons (pv 1) pa_nil)) (pg_tup rfl (pgs_cons (pg_name (i := 2) scCheckP.nd rfl (Or.inl rfl)) (pgs_cons (pg_name (i := 3) scCheckP.nd rfl (Or.inl rfl)) pgs_nil)))
      (pss_one (ps_if (pt_not (pt_val (pe_call GN hr1 rfl mN kN bN .nil pass0 (pa_cons (pv 3) (pa_cons (pv 0) pa_nil)))))
        (pss_one (ps_raise rfl (takes_of rfl rfl rfl rfl) (pmkErr T.T T.ty iC tI FI hr bI (by decide) rfl T.g (pa_cons pe_str (pa_cons (pv 2) pa_nil))))) pss_nil))), ?_⟩
  obtain ⟨a, b, ks, ps, rfl, hk, hb, hps, q0, qE⟩ := h
  rcases hb with hs | hs
  · refine .inl ⟨_, rfl, b, _, rfl, hs, for_it (walk_enum (K := K) (a := b) (xs := ps.map fun e => V.ref e.1)) (fun i σ H' => ∃ x1 x2 : Option V, σ = [some (.ref a), some (.ref b), x1, x2] ∧ Same H H' ∧ ∀ j, j < i → pairBadAt ks (ps.map (·.2)) j = false) ⟨_, _, rfl, Same.refl H, fun j z => absurd z (Nat.not_lt_zero j)⟩
      (fun i σ H' _ ⟨_, _, _, s, _⟩ => s.seq hs) ?_ ?_⟩
    · rintro i x σ H3 H4 hi ⟨x1, x2, rfl, s3, okj⟩ ⟨T0, y1, y2, rfl, hT, rfl, e1, e2⟩
      rw [List.length_map] at hi
      obtain ⟨e, he, rfl⟩ : ∃ e, ps[i]? = some e ∧ y2 = V.ref e.1 := by
        have y3 : (ps.map fun e => V.ref e.1)[i]? = some y2 := e2
        rw [List.getElem?_map] at y3
        cases q : ps[i]? with
        | none => rw [q] at y3; cases y3
        | some z => rw [q] at y3; exact ⟨z, rfl, (Option.some.inj y3).symm⟩
      obtain rfl : y1 = V.int (i : Nat) := (Option.some.inj e1).symm
      have s4 := s3.trans (sameNew (o := .tup [V.int (i : Nat), V.ref e.1]) hT)
      refine ⟨T0, _, rfl, SqT.of upd_same, rfl, _, _, rfl, _, _, rfl, rfl, ?_⟩
      have bad : pairBadAt ks (ps.map (·.2)) i = !isPr ks e.2 := by
        unfold pairBadAt
        rw [List.getElem?_map, he]
        rfl
      refine ⟨_, rfl, _, rfl, e.1, a, e.2, ks, rfl, SqA.same (hps e (List.mem_of_getElem? he)) s4, SqA.same hk s4, ⟨_, rfl, ?_⟩⟩
      refine ite2 (fun n => ?_) (fun n => ?_)
      · have n : (!isPr ks e.2) = true := n
        refine ⟨_, rfl, rfl, fun d H6 n6 s6 e6 => ?_⟩
        exact qE i (pairsBad_at (by rw [List.length_map]; exact hi) (by rw [bad, n]) okj) d H6 (s4.free n6) (s4.trans s6) e6
      · have n : (!isPr ks e.2) = false := by
          have n : ¬ (!isPr ks e.2) = true := n
          simpa using n
        refine ⟨_, _, rfl, s4, fun j hj => ?_⟩
        rcases Nat.lt_succ_iff_lt_or_eq.mp hj with hj | rfl
        · exact okj j hj
        · rw [bad, n]
    · rintro σ H3 ⟨x1, x2, rfl, s3, okj⟩
      rw [List.length_map] at okj
      exact q0 (pairsBad_none (by rw [List.length_map]; exact okj)) H3 s3
  · refine .inr ⟨_, rfl, b, _, rfl, hs, for_it (walkEt (K := K) (a := b) (xs := ps.map fun e => V.ref e.1)) (fun i σ H' => ∃ x1 x2 : Option V, σ = [some (.ref a), some (.ref b), x1, x2] ∧ Same H H' ∧ ∀ j, j < i → pairBadAt ks (ps.map (·.2)) j = false) ⟨_, _, rfl, Same.refl H, fun j z => absurd z (Nat.not_lt_zero j)⟩
      (fun i σ H' _ ⟨_, _, _, s, _⟩ => Same.tup s hs) ?_ ?_⟩
    · rintro i x σ H3 H4 hi ⟨x1, x2, rfl, s3, okj⟩ ⟨T0, y1, y2, rfl, hT, rfl, e1, e2⟩
      rw [List.length_map] at hi
      obtain ⟨e, he, rfl⟩ : ∃ e, ps[i]? = some e ∧ y2 = V.ref e.1 := by
        have y3 : (ps.map fun e => V.ref e.1)[i]? = some y2 := e2
        rw [List.getElem?_map] at y3
        cases q : ps[i]? with
        | none => rw [q] at y3; cases y3
        | some z => rw [q] at y3; exact ⟨z, rfl, (Option.some.inj y3).symm⟩
      obtain rfl : y1 = V.int (i : Nat) := (Option.some.inj e1).symm
      have s4 := s3.trans (sameNew (o := .tup [V.int (i : Nat), V.ref e.1]) hT)
      refine ⟨T0, _, rfl, SqT.of upd_same, rfl, _, _, rfl, _, _, rfl, rfl, ?_⟩
      have bad : pairBadAt ks (ps.map (·.2)) i = !isPr ks e.2 := by
        unfold pairBadAt
        rw [List.getElem?_map, he]
        rfl
      refine ⟨_, rfl, _, rfl, e.1, a, e.2, ks, rfl, SqA.same (hps e (List.mem_of_getElem? he)) s4, SqA.same hk s4, ⟨_, rfl, ?_⟩⟩
      refine ite2 (fun n => ?_) (fun n => ?_)
      · have n : (!isPr ks e.2) = true := n
        refine ⟨_, rfl, rfl, fun d H6 n6 s6 e6 => ?_⟩
        exact qE i (pairsBad_at (by rw [List.length_map]; exact hi) (by rw [bad, n]) okj) d H6 (s4.free n6) (s4.trans s6) e6
      · have n : (!isPr ks e.2) = false := by
          have n : ¬ (!isPr ks e.2) = true := n
          simpa using n
        refine ⟨_, _, rfl, s4, fun j hj => ?_⟩
        rcases Nat.lt_succ_iff_lt_or_eq.mp hj with hj | rfl
        · exact okj j hj
        · rw [bad, n]
    · rintro σ H3 ⟨x1, x2, rfl, s3, okj⟩
      rw [List.length_map] at okj
      exact q0 (pairsBad_none (by rw [List.length_map]; exact okj)) H3 s3
end
end L2.Und
end

section
set_option Elab.async false
set_option linter.all false
set_option maxRecDepth 100000
set_option maxHeartbeats 4000000
namespace L2.Und
open PySem PySem.Spec PyProof.Rows _root_.Und
open L2.KS
open PySem.W (dataLe dataLt AllAlike Sortable)
/-! ### texts and pairs of texts in order: what sorted(..) makes of them depends on what is in them alone -/
theorem cpsInj {x y : Str} (h : x.cps.toList = y.cps.toList) : x = y := by
  obtain ⟨a⟩ := x
  obtain ⟨b⟩ := y
  exact congrArg Str.mk (Array.toList_inj.mp h)
def leS (x y : Str) : Bool := !strLt y x
theorem leS_iff {x y : Str} : leS x y = true ↔ x.cps.toList ≤ y.cps.toList := by
  unfold leS strLt
  rw [Bool.not_eq_true', decide_eq_false_iff_not]
  exact Iff.rfl
theorem leS_trans (a b c : Str) (h1 : leS a b = true) (h2 : leS b c = true) : leS a c = true := leS_iff.mpr (List.le_trans (leS_iff.mp h1) (leS_iff.mp h2))
theorem leS_total (a b : Str) : (leS a b || leS b a) = true := by
  rw [Bool.or_eq_true]
  exact (List.le_total a.cps.toList b.cps.toList).imp leS_iff.mpr leS_iff.mpr
theorem leS_anti {a b : Str} (h1 : leS a b = true) (h2 : leS b a = true) : a = b := cpsInj (List.le_antisymm (leS_iff.mp h1) (leS_iff.mp h2))
theorem leS_self (a : Str) : leS a a = true := by
  have := leS_total a a
  rwa [Bool.or_self] at this
def leP (p q : Str × Str) : Bool := if p.1 = q.1 then leS p.2 q.2 else leS p.1 q.1
theorem leP_total (a b : Str × Str) : (leP a b || leP b a) = true := by
  unfold leP
  by_cases h : a.1 = b.1
  · rw [if_pos h, if_pos h.symm]
    exact leS_total _ _
  · rw [if_neg h, if_neg (fun e => h e.symm)]
    exact leS_total _ _
theorem leP_trans (a b c : Str × Str) (h1 : leP a b = true) (h2 : leP b c = true) : leP a c = true := by
  unfold leP at *
  by_cases x : a.1 = b.1 <;> by_cases y : b.1 = c.1
  · rw [if_pos x] at h1
    rw [if_pos y] at h2
    rw [if_pos (x.trans y)]
    exact leS_trans _ _ _ h1 h2
  · rw [if_neg y] at h2
    rw [if_neg (by rw [x]; exact y), x]
    exact h2
  · rw [if_neg x] at h1
    rw [if_neg (by rw [← y]; exact x), ← y]
    exact h1
  · rw [if_neg x] at h1
    rw [if_neg y] at h2
    by_cases z : a.1 = c.1
    · exact absurd (leS_anti h1 (by rw [z]; exact h2)) x
    · rw [if_neg z]
      exact leS_trans _ _ _ h1 h2
theorem leP_anti {a b : Str × Str} (h1 : leP a b = true) (h2 : leP b a = true) : a = b := by
  unfold leP at *
  by_cases x : a.1 = b.1
  · rw [if_pos x] at h1
    rw [if_pos x.symm] at h2
    exact Prod.ext x (leS_anti h1 h2)
  · rw [if_neg x] at h1
    rw [if_neg (fun e => x e.symm)] at h2
    exact absurd (leS_anti h1 h2) x
def srtTxt (l : List Str) : List Str := l.mergeSort leS
theorem srt_txt (l : List Str) : srt (l.map sD) = (srtTxt l).map sD := by
  unfold srtTxt
  refine (List.map_mergeSort fun a _ b _ => ?_).symm
  rw [le_str]
  rfl
theorem srt_txt1 (l : List Str) : (srt (l.map sD)).map (·.1) = (srtTxt l).map V.str := by
  rw [srt_txt, List.map_map]
  rfl
theorem srtTxt_perm (l : List Str) : (srtTxt l).Perm l := List.mergeSort_perm _ _
theorem srtTxt_pw (l : List Str) : (srtTxt l).Pairwise fun a b => leS a b = true := List.pairwise_mergeSort leS_trans leS_total l
theorem srtTxt_of {l m : List Str} (p : m.Perm l) (s : m.Pairwise fun a b => leS a b = true) : m = srtTxt l := List.Perm.eq_of_pairwise (fun _ _ _ _ => leS_anti) s (srtTxt_pw l) (p.trans (srtTxt_perm l).symm)
theorem srtTxt_eq {l m : List Str} (p : m.Perm l) : srtTxt m = srtTxt l := srtTxt_of ((srtTxt_perm m).trans p) (srtTxt_pw m)
theorem mem_srtTxt {l : List Str} {x : Str} : x ∈ srtTxt l ↔ x ∈ l := (srtTxt_perm l).mem_iff
theorem len_srtTxt (l : List Str) : (srtTxt l).length = l.length := (srtTxt_perm l).length_eq
/-- each once -/
def onceL {α : Type} [DecidableEq α] : List α → List α
  | [] => []
  | x :: l => if x ∈ onceL l then onceL l else x :: onceL l
theorem mem_onceL {α : Type} [DecidableEq α] {x : α} : ∀ {l : List α}, x ∈ onceL l ↔ x ∈ l
  | [] => Iff.rfl
  | y :: l => by
    have ih := mem_onceL (x := x) (l := l)
    unfold onceL
    by_cases h : y ∈ onceL l
    · rw [if_pos h, ih, List.mem_cons]
      exact ⟨.inr, fun z => z.elim (fun e => e ▸ mem_onceL.mp h) id⟩
    · rw [if_neg h, List.mem_cons, List.mem_cons, ih]
theorem nd_onceL {α : Type} [DecidableEq α] : ∀ l : List α, (onceL l).Nodup
  | [] => List.nodup_nil
  | y :: l => by
    unfold onceL
    by_cases h : y ∈ onceL l
    · rw [if_pos h]
      exact nd_onceL l
    · rw [if_neg h]
      exact List.nodup_cons.mpr ⟨h, nd_onceL l⟩
def srtPairs (l : List (Str × Str)) : List (Str × Str) := l.mergeSort leP
theorem srtPairs_perm (l : List (Str × Str)) : (srtPairs l).Perm l := List.mergeSort_perm _ _
theorem srtPairs_pw (l : List (Str × Str)) : (srtPairs l).Pairwise fun a b => leP a b = true := List.pairwise_mergeSort leP_trans leP_total l
theorem srtPairs_of {l m : List (Str × Str)} (p : m.Perm l) (s : m.Pairwise fun a b => leP a b = true) : m = srtPairs l := List.Perm.eq_of_pairwise (fun _ _ _ _ => leP_anti) s (srtPairs_pw l) (p.trans (srtPairs_perm l).symm)
theorem srtPairs_eq {l m : List (Str × Str)} (p : m.Perm l) : srtPairs m = srtPairs l := srtPairs_of ((srtPairs_perm m).trans p) (srtPairs_pw m)
/-- the pairs of a table -/
def pairsOf (ps : List (Str × Str)) : List (Str × Str) := srtPairs (onceL (ps.map asc))
theorem mem_pairsOf {ps : List (Str × Str)} {p : Str × Str} : p ∈ pairsOf ps ↔ ∃ q ∈ ps, p = asc q := by
  unfold pairsOf
  rw [(srtPairs_perm _).mem_iff, mem_onceL, List.mem_map]
  exact ⟨fun ⟨q, h, e⟩ => ⟨q, h, e.symm⟩, fun ⟨q, h, e⟩ => ⟨q, h, e.symm⟩⟩
theorem nd_pairsOf (ps : List (Str × Str)) : (pairsOf ps).Nodup := (srtPairs_perm _).nodup_iff.mpr (nd_onceL _)
theorem pairsOf_pw (ps : List (Str × Str)) : (pairsOf ps).Pairwise fun a b => leP a b = true := srtPairs_pw _
theorem pairsOf_of {ps M : List (Str × Str)} (nd : M.Nodup) (mem : ∀ p, p ∈ M ↔ ∃ q ∈ ps, p = asc q) (s : M.Pairwise fun a b => leP a b = true) : M = pairsOf ps :=
  List.Perm.eq_of_pairwise (fun _ _ _ _ => leP_anti) s (pairsOf_pw ps) ((List.perm_ext_iff_of_nodup nd (nd_pairsOf ps)).mpr fun p => (mem p).trans mem_pairsOf.symm)
theorem pairsOf_eq {ps qs : List (Str × Str)} (h : ∀ p, (∃ q ∈ ps, p = asc q) ↔ ∃ q ∈ qs, p = asc q) : pairsOf ps = pairsOf qs := pairsOf_of (nd_pairsOf ps) (fun p => mem_pairsOf.trans (h p)) (pairsOf_pw ps)
/-! ### .. as keys -/
def kOf (p : Str × Str) : List Key := [.inr p.1, .inr p.2]
theorem kOf_inj {p q : Str × Str} (h : kOf p = kOf q) : p = q := by
  obtain ⟨a, b⟩ := p
  obtain ⟨c, d⟩ := q
  cases h
  rfl
def unk : List Key → Str × Str
  | [.inr x, .inr y] => (x, y)
  | _ => ("", "")
theorem keyData_inj : ∀ {k l : Key}, keyData k = keyData l → k = l
  | .inl _, .inl _, h => by cases h; rfl
  | .inr _, .inr _, h => by cases h; rfl
theorem tupData_inj {k l : List Key} (h : tupData k = tupData l) : k = l := by
  have h : k.map keyData = l.map keyData := by
    unfold tupData at h
    exact PyData.tuple.inj h
  exact List.map_inj_right (fun _ _ => keyData_inj) |>.mp h
theorem le_keys (a b : Addr) (p q : Str × Str) : dataLe false (·.2) (rowD (a, kOf p)) (rowD (b, kOf q)) = leP p q := by
  show (!dataLt (.tuple [.str q.1, .str q.2]) (.tuple [.str p.1, .str p.2])) = _
  rw [PySem.W.dataLt_pair (by simp [PySem.W.alike]) (by simp [PySem.W.alike]), PySem.W.dataLt_str, PySem.W.dataLt_str]
  simp only [PyData.eqv, beq_iff_eq]
  unfold leP leS strLt
  by_cases h : q.1 = p.1
  · rw [if_pos h, if_pos h.symm]
    by_cases k : q.2 = p.2
    · rw [if_pos k, k, decide_eq_false (List.lt_irrefl _)]
    · rw [if_neg k]
  · rw [if_neg h, if_neg (fun e => h e.symm)]
theorem sorted_keys {L' M : KL} {prs : List (Str × Str)} (e : srt (L'.map rowD) = M.map rowD) (nd : (L'.map (·.2)).Nodup) (mem : ∀ k, k ∈ L'.map (·.2) ↔ ∃ q ∈ prs, k = kOf (asc q)) : M.map (·.2) = (pairsOf prs).map kOf := by
  obtain ⟨Lp, eLp⟩ : ∃ Lp : List (Addr × (Str × Str)), L' = Lp.map fun p => (p.1, kOf p.2) := by
    refine ⟨L'.map fun p => (p.1, unk p.2), ?_⟩
    rw [List.map_map]
    refine (List.map_id L').symm.trans (List.map_congr_left fun p hp => ?_)
    obtain ⟨q, _, eq⟩ := (mem p.2).mp (List.mem_map.mpr ⟨p, hp, rfl⟩)
    show p = (p.1, kOf (unk p.2))
    rw [eq]
    exact Prod.ext rfl eq
  obtain ⟨S, eS⟩ : ∃ S, S = Lp.mergeSort fun a b => leP a.2 b.2 := ⟨_, rfl⟩
  have pS : S.Perm Lp := eS ▸ List.mergeSort_perm _ _
  have e1 : srt (L'.map rowD) = S.map fun p => rowD (p.1, kOf p.2) := by
    rw [eLp, List.map_map, eS]
    exact (List.map_mergeSort fun a _ b _ => (le_keys a.1 b.1 a.2 b.2).symm).symm
  have e2 : (M.map (·.2)).map tupData = ((S.map (·.2)).map kOf).map tupData := by
    have z := congrArg (List.map (·.2)) (e.symm.trans e1)
    rw [List.map_map, List.map_map] at z
    rw [List.map_map, List.map_map, List.map_map]
    exact z
  have e3 : M.map (·.2) = (S.map (·.2)).map kOf := List.map_inj_right (fun _ _ => tupData_inj) |>.mp e2
  have keys : L'.map (·.2) = (Lp.map (·.2)).map kOf := by
    rw [eLp, List.map_map, List.map_map]
    rfl
  rw [e3]
  refine congrArg (List.map kOf) (pairsOf_of ?_ (fun p => ?_) ?_)
  · rw [(pS.map _).nodup_iff]
    rw [keys] at nd
    exact List.Pairwise.of_map kOf (fun _ _ h z => h (by rw [z])) nd
  · rw [(pS.map _).mem_iff]
    have z := mem (kOf p)
    rw [keys, List.mem_map] at z
    constructor
    · intro h
      obtain ⟨q, hq, e⟩ := z.mp ⟨p, h, rfl⟩
      exact ⟨q, hq, kOf_inj e⟩
    · rintro ⟨q, hq, rfl⟩
      obtain ⟨r, hr, e⟩ := z.mpr ⟨q, hq, rfl⟩
      exact kOf_inj e ▸ hr
  · rw [List.pairwise_map, eS]
    exact List.pairwise_mergeSort (fun a b c => leP_trans a.2 b.2 c.2) (fun a b => leP_total a.2 b.2) Lp
end L2.Und
end

section
set_option Elab.async false
set_option linter.all false
set_option maxRecDepth 100000
set_option maxHeartbeats 4000000
namespace L2.Und
open PySem PySem.Spec PyProof.Rows _root_.Und
open L2.KS
open PySem.W (findIn keepIn typeIn subIn dataLe dataLt AllAlike Sortable)
/-! ### Table.__init__ of the program -/
def clsPart (s : Stmt) (j : Nat) : Stmt := match s with
  | .ClassDef _ _ _ body _ _ _ _ _ _ _ => body.getD j (.Pass ⟨0, 0, 0, 0⟩)
  | s => s
abbrev sTabIni : Stmt := clsPart (topS 18) 0
abbrev sTabNF : Stmt := clsPart (topS 18) 11
theorem scTabIni : FnScope ["self", "kinds", "pairs", "pair", "one"] ["self", "kinds", "pairs"] (defScope sTabIni) := ⟨rfl, rfl, rfl, by decide +kernel, rfl, by decide +kernel, by decide +kernel⟩
theorem scTabNF : FnScope ["self", "one", "other"] ["self", "one"] (defScope sTabNF) := ⟨rfl, rfl, rfl, by decide +kernel, rfl, by decide +kernel, by decide +kernel⟩
/-- the kinds that a kind cannot pass -/
def stopsOf (ks : List Str) (P : List (Str × Str)) (x : Str) : List Str := ks.filter fun y => decide (asc (x, y) ∉ P)
abbrev tabFs (tk tp fr st : Addr) : List (Str × V) := [("kinds", .ref tk), ("pairs", .ref tp), ("_free", .ref fr), ("_stops", .ref st)]
/-- what a table holds -/
structure TabAt (K : PySem.W.Frag) (C o dx : Addr) (ks : List Str) (ps : List (Str × Str)) (L : KL) (SL : List (Str × Addr)) (tk tp fr st : Addr) (H : Hp) : Prop where
  good : kindsBad ks = none
  mem : ∀ p ∈ ps, p.1 ∈ ks ∧ p.2 ∈ ks ∧ p.1 ≠ p.2
  obj : H o = some (.ins C dx (tabFs tk tp fr st))
  kinds : H tk = some (.tup ((srtTxt ks).map V.str))
  pairs : H tp = some (.tup (L.map fun p => V.ref p.1))
  each : ∀ p ∈ L, H p.1 = some (.tup (p.2.map kV))
  keys : L.map (·.2) = (pairsOf ps).map kOf
  free : H fr = some (.dT (L.map fun p => (p.2, V.bl true)))
  names : SL.map (·.1) = srtTxt ks
  stops : H st = some (.dK (SL.map fun p => (.inr p.1, V.ref p.2)))
  stop : ∀ p ∈ SL, H p.2 = some (.tup ((stopsOf (srtTxt ks) (pairsOf ps) p.1).map V.str))
def twos : List (List Str) → List (Str × Str)
  | [] => []
  | [x, y] :: r => (x, y) :: twos r
  | _ :: r => twos r
def spTabIni (K : PySem.W.Frag) (C CE : Addr) : Sp := fun vs H Q E => ∃ (o a b dx : Addr) (ks : List Str) (ps : RL) (U : List (List Key)), vs = [.ref o, .ref a, .ref b] ∧ H o = some (.ins C dx []) ∧ SqA K H a (ks.map V.str) ∧ SqA K H b (ps.map fun e => V.ref e.1) ∧
  (∀ e ∈ ps, SqA K H e.1 (e.2.map V.str)) ∧ ks.length ≤ 1000 ∧ (∀ k ∈ ks, k.length ≤ 1000) ∧ U.length ≤ 75 ∧ (∀ p ∈ twos (ps.map (·.2)), kOf (asc p) ∈ U) ∧
  (kindsBad ks = none → pairsBad ks (ps.map (·.2)) = none → ∀ (H' : Hp) (tk tp fr st : Addr) (L : KL) (SL : List (Str × Addr)), (∀ c u, c ≠ o → H c = some u → H' c = some u) → TabAt K C o dx ks (twos (ps.map (·.2))) L SL tk tp fr st H' → Q .non H') ∧
  (∀ t i, kindsBad ks = some (t, i) → ∀ (d : Addr) (H' : Hp), H d = none → Same H H' → H' d = some (.xd [("at", .int i), ("word", .str t)]) → E (.ref CE) (some d) H') ∧
  (kindsBad ks = none → ∀ i : Nat, pairsBad ks (ps.map (·.2)) = some i → ∀ (d : Addr) (H' : Hp), H d = none → Same H H' → H' d = some (.xd [("at", .int (i : Int)), ("word", .str "pair")]) → E (.ref CE) (some d) H')
/-- a walk whose turns do what they do -/
theorem so_it {J : It} {n : Nat} {G : Hp → Prop} {Y : Nat → Hp → V → Hp → Prop} (w : Walk J n G Y) {step : (Hp → Prop) → V → Hp → Prop} {H : Hp} {R : Hp → Prop} (Pv : Nat → Hp → Prop) (h0 : Pv 0 H) (hG : ∀ i H, i ≤ n → Pv i H → G H)
    (hs : ∀ i x H H', i < n → Pv i H → Y i H x H' → step (Pv (i + 1)) x H') (hd : ∀ H, Pv n H → R H) :
    ∃ W : Nat → Nat → Hp → Prop, (∃ m, W 0 m H) ∧ ∀ i m H2, W i m H2 → (J.stop i H2 ∧ R H2) ∨ (J.go i H2 ∧ ∃ N : Hp → Prop, (∀ H3, N H3 → ∃ m', m' < m ∧ W (i + 1) m' H3) ∧ ∀ x H3, J.yld i H2 x H3 → step N x H3) := by
  refine ⟨fun i m H => m = n - i ∧ i ≤ n ∧ Pv i H, ⟨n, by simp, Nat.zero_le _, h0⟩, ?_⟩
  rintro i m H ⟨rfl, hi, p⟩
  have q := hG i H hi p
  by_cases hlt : i < n
  · exact .inr ⟨w.goes i H hlt q, Pv (i + 1), fun H' p' => ⟨n - (i + 1), by omega, rfl, hlt, p'⟩, fun x H' y => hs i x H H' hlt p (w.yields i H x H' hlt q y)⟩
  · have e : i = n := by omega
    subst e
    exact .inl ⟨w.stops H q, hd H p⟩
theorem nodup_le {α : Type} [DecidableEq α] : ∀ (l U : List α), l.Nodup → (∀ x ∈ l, x ∈ U) → l.length ≤ U.length
  | [], _, _, _ => Nat.zero_le _
  | x :: l, U, hn, hs => by
    have hx := hs x List.mem_cons_self
    obtain ⟨h1, h2⟩ := List.nodup_cons.mp hn
    have z := nodup_le l (U.erase x) h2 fun y hy => (List.mem_erase_of_ne fun e => h1 (by rw [← e]; exact hy)).mpr (hs y (List.mem_cons_of_mem _ hy))
    rw [List.length_erase_of_mem hx] at z
    have := List.length_pos_of_mem hx
    rw [List.length_cons]
    omega
theorem twos_ok : ∀ {qs : List (List Str)}, (∀ e ∈ qs, ∃ x y, e = [x, y]) → qs = (twos qs).map fun p => [p.1, p.2]
  | [], _ => rfl
  | e :: r, h => by
    obtain ⟨x, y, rfl⟩ := h e List.mem_cons_self
    have z := twos_ok fun e he => h e (List.mem_cons_of_mem _ he)
    show [x, y] :: r = [x, y] :: (twos r).map _
    rw [← z]
theorem pairs_two {ks : List Str} {qs : List (List Str)} (h : pairsBad ks qs = none) : ∀ e ∈ qs, ∃ x y, e = [x, y] := by
  intro e he
  obtain ⟨i, hi, hh⟩ := List.mem_iff_getElem.mp he
  have z := List.find?_eq_none.mp h i (List.mem_range.mpr hi)
  unfold pairBadAt at z
  rw [List.getElem?_eq_getElem hi, hh] at z
  match e, z with
  | [x, y], _ => exact ⟨x, y, rfl⟩
  | [], z => exact absurd rfl z
  | [_], z => exact absurd rfl z
  | _ :: _ :: _ :: _, z => exact absurd rfl z
structure KindsOk (ks : List Str) : Prop where
  low : 1 ≤ ks.length
  high : ks.length ≤ 12
  nd : ks.Nodup
  nm : ∀ k ∈ ks, IsName k = true
theorem kinds_ok {ks : List Str} (h : kindsBad ks = none) : KindsOk ks := by
  unfold kindsBad at h
  by_cases c : 1 ≤ ks.length ∧ ks.length ≤ 12
  · rw [if_pos c] at h
    have h : firstBad ks = none := by
      cases f : firstBad ks with
      | none => rfl
      | some i => rw [f] at h; cases h
    unfold firstBad at h
    rw [List.find?_eq_none] at h
    have z : ∀ j (hj : j < ks.length), IsName ks[j] = true ∧ ks[j] ∉ ks.take j := fun j hj => by
      have z := h j (List.mem_range.mpr hj)
      unfold badAt at z
      rw [List.getElem?_eq_getElem hj] at z
      simpa using z
    refine ⟨c.1, c.2, List.pairwise_iff_getElem.mpr fun i j hi hj lt e => ?_, fun k hk => ?_⟩
    · exact (z j hj).2 (by rw [← e]; exact List.mem_take_iff_getElem.mpr ⟨i, by omega, rfl⟩)
    · obtain ⟨j, hj, rfl⟩ := List.mem_iff_getElem.mp hk
      exact (z j hj).1
  · rw [if_neg c] at h
    cases h
theorem kinds_nodup {ks : List Str} (h : kindsBad ks = none) : ks.Nodup := (kinds_ok h).nd
theorem pairs_ok {ks : List Str} {prs : List (Str × Str)} (h : pairsBad ks (prs.map fun p => [p.1, p.2]) = none) : ∀ p ∈ prs, p.1 ∈ ks ∧ p.2 ∈ ks ∧ p.1 ≠ p.2 := by
  intro p hp
  obtain ⟨j, hj, rfl⟩ := List.mem_iff_getElem.mp hp
  unfold pairsBad at h
  rw [List.find?_eq_none] at h
  have z := h j (List.mem_range.mpr (by rw [List.length_map]; exact hj))
  unfold pairBadAt at z
  rw [List.getElem?_map, List.getElem?_eq_getElem hj] at z
  have z : ¬ (!(decide (prs[j].1 ≠ prs[j].2) && decide (prs[j].1 ∈ ks) && decide (prs[j].2 ∈ ks))) = true := z
  simp at z
  exact ⟨z.1.2, z.2, z.1.1⟩
theorem alike_strs (ks : List Str) : AllAlike ((ks.map sD).map (·.2)) := by
  intro d hd d' hd'
  have all : ∀ d ∈ (ks.map sD).map (·.2), ∃ z, d = PyData.str z := fun d hd => by
    obtain ⟨p, hp, rfl⟩ := List.mem_map.mp hd
    obtain ⟨k, _, rfl⟩ := List.mem_map.mp hp
    exact ⟨k, rfl⟩
  obtain ⟨z, rfl⟩ := all d hd
  obtain ⟨z', rfl⟩ := all d' hd'
  simp [PySem.W.alike]
theorem sort_strs (ks : List Str) : Sortable ((ks.map sD).map (·.2)) := by
  refine .inr fun d hd => ?_
  obtain ⟨p, hp, rfl⟩ := List.mem_map.mp hd
  obtain ⟨k, _, rfl⟩ := List.mem_map.mp hp
  exact ⟨fun z => (nomatch z), fun _ z => (nomatch z)⟩
theorem alike_pairs (L : KL) (h : ∀ p ∈ L, ∃ q : Str × Str, p.2 = kOf q) : AllAlike (L.map fun p => tupData p.2) := by
  intro d hd d' hd'
  obtain ⟨p, hp, rfl⟩ := List.mem_map.mp hd
  obtain ⟨p', hp', rfl⟩ := List.mem_map.mp hd'
  obtain ⟨q, e⟩ := h p hp
  obtain ⟨q', e'⟩ := h p' hp'
  rw [e, e']
  simp [tupData, kOf, keyData, PySem.W.alike, PySem.W.alikeAll]
/-- over a list or a tuple that stands -/
theorem or_walk {K : PySem.W.Frag} {i : Nat} {σ : St} {H : Hp} {b : Addr} {xs : List V} {R : It → Hp → Prop} (hi : σ[i]? = some (some (.ref b))) (hb : SqA K H b xs) (h : ∀ (J : It) (G : Hp → Prop), Walk J xs.length G (YAt xs) → (∀ H', Same H H' → G H') → R J H) :
    iList K (tVar i) σ H R ∨ iTup K (tVar i) σ H R := by
  rcases hb with hs | hs
  · exact .inl ⟨_, hi, b, rfl, ⟨xs, hs⟩, h _ _ walk_list fun _ s => s.seq hs⟩
  · exact .inr ⟨_, hi, b, rfl, ⟨xs, hs⟩, h _ _ walk_tup fun _ s => Same.tup s hs⟩
theorem SqA.off {K : PySem.W.Frag} {H H' : Hp} {o C dx b : Addr} {fs : List (Str × V)} {xs : List V} (hO : H o = some (.ins C dx fs)) (f : ∀ c u, c ≠ o → H c = some u → H' c = some u) (h : SqA K H b xs) : SqA K H' b xs := by
  have g : ∀ u, H b = some u → u ≠ .ins C dx fs → H' b = some u := fun u e n => f b u (fun z => n (by rw [z, hO] at e; exact (Option.some.inj e).symm)) e
  rcases h with ((h | ⟨q, h⟩) | h) | ((h | ⟨q, h⟩) | h)
  · exact .inl (.inl (.inl (g _ h (fun z => nomatch z))))
  · exact .inl (.inl (.inr ⟨q, g _ h (fun z => nomatch z)⟩))
  · exact .inl (.inr h)
  · exact .inr (.inl (.inl (g _ h (fun z => nomatch z))))
  · exact .inr (.inl (.inr ⟨q, g _ h (fun z => nomatch z)⟩))
  · exact .inr (.inr h)
/-! ### _not_free_with -/
def spNF (K : PySem.W.Frag) (C : Addr) : Sp := fun vs H Q _ => ∃ (o dx tk fr : Addr) (fs : List (Str × V)) (x : Str) (ks : List Str) (L : KL) (P : List (Str × Str)), vs = [.ref o, .str x] ∧ H o = some (.ins C dx fs) ∧ fs.lookup ("kinds" : Str) = some (V.ref tk) ∧ fs.lookup ("_free" : Str) = some (V.ref fr) ∧
  SqT K H tk (ks.map V.str) ∧ ks.length ≤ 1000 ∧ H fr = some (.dT (L.map fun p => (p.2, V.bl true))) ∧ L.map (·.2) = P.map kOf ∧ ∀ (p : Addr) (H' : Hp), H p = none → Same H H' → H' p = some (.tup ((stopsOf ks P x).map V.str)) → Q (.ref p) H'
theorem valV_keys (k : List Key) : ∀ L : KL, (valV (L.map fun p => (p.2, V.bl true)) k).isSome = true ↔ k ∈ L.map (·.2)
  | [] => Iff.intro (fun z => nomatch z) (fun z => nomatch z)
  | p :: L => by
    rw [List.map_cons, List.map_cons, List.mem_cons]
    by_cases h : p.2 = k
    · rw [valV_pos h]
      exact ⟨fun _ => .inl h.symm, fun _ => rfl⟩
    · rw [valV_neg h, valV_keys k L]
      exact ⟨.inr, fun z => z.elim (fun e => absurd e.symm h) id⟩
theorem free_key {L : KL} {P : List (Str × Str)} (h : L.map (·.2) = P.map kOf) (p : Str × Str) : (valV (L.map fun q => (q.2, V.bl true)) (kOf p)).isSome = decide (p ∈ P) := by
  have z := valV_keys (kOf p) L
  rw [h, List.mem_map] at z
  by_cases m : p ∈ P
  · rw [decide_eq_true m]
    exact z.mpr ⟨p, m, rfl⟩
  · rw [decide_eq_false m, ← Bool.not_eq_true]
    intro y
    obtain ⟨q, hq, e⟩ := z.mp y
    exact m (kOf_inj e ▸ hq)
section
variable {P : Program} {w : World} {K : PySem.W.Frag} {mg : Str → Option Value} {base : Heap}
theorem okNF {f fA C : Addr} {fd fdA : FuncData} (F : Fun K "_not_free_with" "Table._not_free_with" sTabNF f fd) (c : Cls K C) (n1 : NoAttr K C "kinds") (n3 : NoAttr K C "_free")
    (GA : FnOk P w K mg base CX0 1 fA fdA ["pair"] (spAsc K)) (mA : mg "ascending" = some (.ref fA)) (kA : keepIn K (.ref fA) = true) (bA : Binds K fdA ["pair"] []) (mT : mg "tuple" = none) : FnOk P w K mg base CX0 2 f fd ["self", "one"] (spNF K C) := by
  refine F.ok scTabNF (fun vs H Q E h => ?_) (fun cdv A outer s H vs Q E hr h => ?_)
  · obtain ⟨o, dx, tk, fr, fs, x, ks, L, P', rfl, _⟩ := h
    rfl
  have hu : (A.deeper (envOfC "Table._not_free_with" (defScope sTabNF) s.heap.objs.size f cdv)).units + 1 < cLine := by have := hr.un; omega
  refine ⟨_, pss_one (ps_ret (pe_callTy call_tuple_of rfl mT PyProof.Rows.Boot.«tuple» (pa_cons (pe_lc (own := [("other", 2)]) (g := gName 2) rfl scTabNF.nd (pi_tup (pe_fld (pv 0) rfl)) (blkOk_by (N := ["self", "one", "other"]) (sc := defScope sTabNF) (by decide +kernel))
      (fun _ _ _ _ _ => pg_name (i := 2) scTabNF.nd rfl (Or.inl rfl)) (fun _ _ _ _ _ => pts_one (pt_cmp (pc_dnotin hu (pe_call GA hr rfl mA kA bA .nil pass0 (pa_cons (pe_tup (pa_cons (pv 1) (pa_cons (pv 2) pa_nil))) pa_nil)) (show PE _ _ (tFld K (tVar 0) "_free") from pe_fld (pv 0) rfl)))) (fun _ _ _ _ _ => pv 2)) pa_nil))), ?_⟩
  obtain ⟨o, dx, tk, fr, fs, x, ks, L, P', rfl, hO, lk, lf, hk, hl, hf, kp, q⟩ := h
  refine ⟨_, rfl, o, C, dx, fs, _, rfl, hO, c, n1, lk, tk, rfl, ⟨_, hk⟩, fun D hD => ?_⟩
  refine lc_tup (xs := ks.map V.str) (fun i H' => Same H H' ∧ H' D = some (.lst ((stopsOf (ks.take i) P' x).map V.str))) ⟨sameNew hD, upd_same⟩ (fun i H' _ z => Same.tup z.1 hk) ?_ ?_
  · rintro i v H1 hv ⟨s1, d1⟩
    obtain ⟨y, hy, rfl⟩ : ∃ y, ks[i]? = some y ∧ v = V.str y := by
      rw [List.getElem?_map] at hv
      cases e : ks[i]? with
      | none => rw [e] at hv; cases hv
      | some y => rw [e] at hv; exact ⟨y, rfl, (Option.some.inj hv).symm⟩
    have tk' : ks.take (i + 1) = ks.take i ++ [y] := by rw [List.take_succ, hy]; rfl
    have short : (stopsOf (ks.take i) P' x).length ≤ 1000 := by
      have z : (stopsOf (ks.take i) P' x).length ≤ (ks.take i).length := List.length_filter_le _ _
      rw [List.length_take] at z
      omega
    refine ⟨rfl, _, rfl, _, rfl, (by show 2 ≤ sizeLine; decide), fun t ht => ?_⟩
    refine ⟨t, x, y, rfl, .inr (SqT.of upd_same), fun a H2 na s2 ea => ?_⟩
    have s02 := (s1.trans (sameNew (o := .tup [.str x, .str y]) ht)).trans s2
    have d2 := s2 _ _ ((sameNew (o := .tup [.str x, .str y]) ht) _ _ d1)
    refine ⟨_, rfl, o, C, dx, fs, _, rfl, s02 _ _ hO, c, n3, lf, fr, _, rfl, DGet.t (k := kOf (asc (x, y))) (s02 _ _ hf) ea, _, rfl, ?_⟩
    rw [free_key kp]
    unfold stopsOf at d2 ⊢
    rw [tk', List.filter_append]
    by_cases m : asc (x, y) ∈ P'
    · have e1 : List.filter (fun y => decide (asc (x, y) ∉ P')) [y] = [] := by simp [m]
      rw [decide_eq_true m, e1, List.append_nil]
      exact iteF ⟨s02, d2⟩
    · have e1 : List.filter (fun y => decide (asc (x, y) ∉ P')) [y] = [y] := by simp [m]
      rw [decide_eq_false m, e1, List.map_append]
      refine iteT ⟨_, rfl, _, d2, ?_, Same.upd s02 hD, upd_same⟩
      rw [List.length_map]
      have : (1000 : Nat) < sizeLine := by decide
      unfold stopsOf at short
      omega
  · rintro H1 ⟨s1, d1⟩
    rw [List.length_map, List.take_length] at d1
    refine ⟨D, _, rfl, .inl ⟨SqL.of d1, fun l hl1 => ?_⟩⟩
    exact q l _ (s1.free hl1) (s1.trans (sameNew hl1)) upd_same
end
section
variable {P : Program} {w : World} {K : PySem.W.Frag} {mg : Str → Option Value} {base : Heap}
theorem okTabIni {f fK fP fA fN C CE : Addr} {fd fdK fdP fdA fdN : FuncData} {dvs : List V} {kws : List (Str × V)} (F : FunD K "__init__" "Table.__init__" (defArgs sTabIni) (defBody sTabIni) (defScope sTabIni) dvs kws f fd) (c : Cls K C) (n1 : NoAttr K C "kinds") (n2 : NoAttr K C "pairs") (n3 : NoAttr K C "_free") (n4 : NoAttr K C "_stops")
    (GK : FnOk P w K mg base (L2.CX P w) 3 fK fdK ["kinds"] (spCheckK K CE)) (mK : mg "check_kinds" = some (.ref fK)) (kK : keepIn K (.ref fK) = true) (bK : Binds K fdK ["kinds"] [])
    (GP : FnOk P w K mg base (L2.CX P w) 3 fP fdP ["kinds", "pairs"] (spCheckP K CE)) (mP : mg "check_pairs" = some (.ref fP)) (kP : keepIn K (.ref fP) = true) (bP : Binds K fdP ["kinds", "pairs"] [])
    (GA : FnOk P w K mg base CX0 1 fA fdA ["pair"] (spAsc K)) (mA : mg "ascending" = some (.ref fA)) (kA : keepIn K (.ref fA) = true) (bA : Binds K fdA ["pair"] [])
    (hmN : Meth K C "_not_free_with" fN) (GN : FnOk P w K mg base CX0 2 fN fdN ["self", "one"] (spNF K C)) (bN : Binds K fdN ["self", "one"] [])
    (mT : mg "tuple" = none) (mS : mg "sorted" = none) : FnOk P w K mg base (L2.CX P w) 4 f fd ["self", "kinds", "pairs"] (spTabIni K C CE) := by
  refine F.ok scTabIni (fun vs H Q E h => ?_) (fun cdv A outer s H vs Q E hr h => ?_)
  · obtain ⟨o, a, b, dx, ks, ps, U, rfl, _⟩ := h
    rfl
  have hr1 : Room 1 (A.deeper (envOfC "Table.__init__" (defScope sTabIni) s.heap.objs.size f cdv)) := hr.mono (by decide)
  have hu : (A.deeper (envOfC "Table.__init__" (defScope sTabIni) s.heap.objs.size f cdv)).units + 64 < cLine := by have := hr.un; omega
  have bS : bootBuiltins ("sorted" : Str) = some (.builtin "sorted") := by decide +kernel
  refine ⟨_, pss_cons (ps_expr (pe_callS GK hr rfl mK kK bK (fun σ => passAt (takes_of rfl rfl rfl rfl) σ) (pa_cons (pv 1) pa_nil)))
    (pss_cons (ps_expr (pe_callS GP hr rfl mP kP bP (fun σ => passAt (takes_of rfl rfl rfl rfl) σ) (pa_cons (pv 1) (pa_cons (pv 2) pa_nil))))
    (pss_cons (ps_fld (pv 0) (pe_callTy call_tuple_of rfl mT PyProof.Rows.Boot.«tuple» (pa_cons (pe_callB (cr_sortD hu) rfl mS bS (pa_cons (pv 1) pa_nil)) pa_nil)) rfl)
    (pss_cons (ps_fld (pv 0) (pe_callTy call_tuple_of rfl mT PyProof.Rows.Boot.«tuple» (pa_cons (pe_callB (cr_sortKS rfl hu) rfl mS bS (pa_cons
        (pe_setOf (holdsK P w) (own := [("pair", 3)]) (g := gName 3) (tt := tYes) hu rfl scTabIni.nd (pi_or (pi_list (pv 2)) (pi_tup (pv 2))) (blkOk_by (N := ["self", "kinds", "pairs", "pair", "one"]) (sc := defScope sTabIni) (by decide +kernel))
          (fun _ _ _ _ _ => pg_name (i := 3) scTabIni.nd rfl (Or.inl rfl)) (fun _ _ _ _ _ => pts_nil)
          (fun _ _ _ _ _ => pe_call GA hr1 rfl mA kA bA .nil pass0 (pa_cons (pv 3) pa_nil))) pa_nil)) pa_nil)) rfl)
    (pss_cons (ps_fld (pv 0) (pe_dictT (own := [("pair", 3)]) (g := gName 3) (tt := tYes) (Nat.lt_of_le_of_lt (Nat.le_add_right _ 64) hu) rfl scTabIni.nd (pi_tup (pe_fld (pv 0) rfl)) (blkOk_by (N := ["self", "kinds", "pairs", "pair", "one"]) (sc := defScope sTabIni) (by decide +kernel))
          (fun _ _ _ _ _ => pg_name (i := 3) scTabIni.nd rfl (Or.inl rfl)) (fun _ _ _ _ _ => pts_nil)
          (fun _ _ _ _ _ => pv 3) (fun _ _ _ _ _ => pe_bl)) rfl)
    (pss_one (ps_fld (pv 0) (pe_dc (own := [("one", 4)]) (g := gName 4) (tt := tYes) rfl scTabIni.nd (pi_tup (pe_fld (pv 0) rfl)) (blkOk_by (N := ["self", "kinds", "pairs", "pair", "one"]) (sc := defScope sTabIni) (by decide +kernel))
          (fun _ _ _ _ _ => pg_name (i := 4) scTabIni.nd rfl (Or.inl rfl)) (fun _ _ _ _ _ => pts_nil)
          (fun _ _ _ _ _ => pv 4) (fun _ _ _ _ _ => pe_meth (pv 0) c hmN GN (hr.mono (by decide)) bN .nil pass0 (pa_cons (pv 4) pa_nil))) rfl)))))), ?_⟩
  obtain ⟨o, a, b, dx, ks, ps, U, rfl, hO, hk, hb, hps, hl, hkl, hU, hpU, q0, qE1, qE2⟩ := h
  refine ⟨_, rfl, a, ks, rfl, hk, hl, hkl, fun n0 H1 s1 => ?_, qE1⟩
  refine ⟨_, rfl, _, rfl, a, b, ks, ps, rfl, SqA.same hk s1, SqA.same hb s1, fun e he => SqA.same (hps e he) s1, fun p0 H2 s2 => ?_, fun i hi d H' n s e => qE2 n0 i hi d H' (s1.free n) (s1.trans s) e⟩
  have s12 := s1.trans s2
  have e1 : (ks.map sD).map (·.1) = ks.map V.str := by rw [List.map_map]; rfl
  refine ⟨_, rfl, a, ks.map sD, rfl, by rw [e1]; exact SqA.same hk s12, ?_, alike_strs ks, sort_strs ks, ?_, fun p hp => ?_⟩
  · intro z hz
    obtain ⟨k, _, rfl⟩ := List.mem_map.mp hz
    exact .str k
  · intro z hz
    obtain ⟨k, _, rfl⟩ := List.mem_map.mp hz
    simp [PyData.depth]
  refine ⟨p, _, rfl, .inl ⟨SqL.of upd_same, fun l hl1 => ?_⟩⟩
  have t1 := sameNew (o := .lst ((srt (ks.map sD)).map (·.1))) hp
  have t2 := sameNew (o := .tup ((srt (ks.map sD)).map (·.1))) hl1
  have s4 := (s12.trans t1).trans t2
  have lo : l ≠ o := fun z => by rw [z, (s12.trans t1) o _ hO] at hl1; cases hl1
  refine ⟨_, rfl, o, C, dx, [], rfl, s4 o _ hO, c, n1, by decide, ?_⟩
  have k4 : upd (upd H2 p (.lst ((srt (ks.map sD)).map (·.1)))) l (.tup ((srt (ks.map sD)).map (·.1))) l = some (.tup ((srtTxt ks).map V.str)) := by rw [upd_same, srt_txt1]
  generalize upd (upd H2 p (.lst ((srt (ks.map sD)).map (·.1)))) l (.tup ((srt (ks.map sD)).map (·.1))) = H4 at s4 k4
  have f5 : ∀ c u, c ≠ o → H c = some u → upd H4 o (.ins C dx (putF "kinds" (.ref l) [])) c = some u := fun c u hc e => by rw [upd_ne hc]; exact s4 c u e
  have o5 : upd H4 o (.ins C dx (putF "kinds" (.ref l) [])) o = some (.ins C dx [("kinds", .ref l)]) := upd_same
  have k5 : upd H4 o (.ins C dx (putF "kinds" (.ref l) [])) l = some (.tup ((srtTxt ks).map V.str)) := by rw [upd_ne lo]; exact k4
  generalize upd H4 o (.ins C dx (putF "kinds" (.ref l) [])) = H5 at f5 o5 k5
  have tw := twos_ok (pairs_two p0)
  obtain ⟨prs, ePrs⟩ : ∃ z, z = twos (ps.map (·.2)) := ⟨_, rfl⟩
  rw [← ePrs] at tw hpU q0
  have len : prs.length = ps.length := by
    have z := congrArg List.length tw
    rw [List.length_map, List.length_map] at z
    exact z.symm
  have atp : ∀ (i : Nat) (e : Addr × List Str), ps[i]? = some e → ∃ x y, e.2 = [x, y] ∧ prs[i]? = some (x, y) := fun i e he => by
    have z : (ps.map (·.2))[i]? = some e.2 := by rw [List.getElem?_map, he]; rfl
    rw [tw, List.getElem?_map] at z
    cases q : prs[i]? with
    | none => rw [q] at z; cases z
    | some r => rw [q] at z; exact ⟨r.1, r.2, (Option.some.inj z).symm, rfl⟩
  refine or_walk rfl (SqA.off hO f5 hb) fun J G wk gs D hD => ?_
  refine so_it wk (fun i H' => Same H5 H' ∧ ∃ L : KL, H' D = some (KSO P w D L) ∧ (∀ p ∈ L, H' p.1 = some (.tup (p.2.map kV))) ∧ (L.map (·.2)).Nodup ∧ ∀ k, k ∈ L.map (·.2) ↔ ∃ q ∈ prs.take i, k = kOf (asc q))
    ⟨sameNew hD, [], upd_same, fun _ z => (nomatch z), List.nodup_nil, fun k => ⟨fun z => (nomatch z), fun ⟨_, z, _⟩ => (nomatch z)⟩⟩ (fun i H' _ z => gs H' z.1) ?_ ?_
  · rintro i x H6 H7 hi ⟨s6, L, hD6, hL6, nd6, mem6⟩ ⟨rfl, hx⟩
    rw [List.length_map] at hi
    obtain ⟨e, he, rfl⟩ : ∃ e, ps[i]? = some e ∧ x = V.ref e.1 := by
      rw [List.getElem?_map] at hx
      cases q : ps[i]? with
      | none => rw [q] at hx; cases hx
      | some z => rw [q] at hx; exact ⟨z, rfl, (Option.some.inj hx).symm⟩
    obtain ⟨x, y, exy, eq⟩ := atp i e he
    have sq : SqA K H7 e.1 [.str x, .str y] := by
      have z := hps e (List.mem_of_getElem? he)
      rw [exy] at z
      exact SqA.same (SqA.off hO f5 z) s6
    refine ⟨rfl, _, rfl, e.1, x, y, rfl, sq, fun p H8 np s8 ep => ?_⟩
    have hD8 := s8 D _ hD6
    have hL8 : ∀ q ∈ L, H8 q.1 = some (.tup (q.2.map kV)) := fun q hq => s8 _ _ (hL6 q hq)
    have top : L.length + 1 ≤ 76 := by
      have z := nodup_le (L.map (·.2)) U nd6 fun k hk => by
        obtain ⟨q, hq, rfl⟩ := (mem6 k).mp hk
        exact hpU q (List.mem_of_mem_take hq)
      rw [List.length_map] at z
      omega
    have tk : prs.take (i + 1) = prs.take i ++ [(x, y)] := by rw [List.take_succ, eq]; rfl
    refine ⟨p, kOf (asc (x, y)), L, rfl, ep, hD8, hL8, top, fun L' c1 c2 => ⟨Same.upd (s6.trans s8) hD, L', upd_same, ?_, ?_, ?_⟩⟩
    · have each : ∀ q ∈ L', H8 q.1 = some (.tup (q.2.map kV)) := fun q hq => by
        by_cases m : kOf (asc (x, y)) ∈ L.map (·.2)
        · rw [c1 m] at hq
          exact hL8 q hq
        · rcases List.mem_cons.mp ((c2 m).mem_iff.mp hq) with rfl | hq
          · exact ep
          · exact hL8 q hq
      intro q hq
      have z := each q hq
      rw [upd_ne (fun y => by rw [y, hD8] at z; cases z)]
      exact z
    · by_cases m : kOf (asc (x, y)) ∈ L.map (·.2)
      · rw [c1 m]
        exact nd6
      · rw [((c2 m).map _).nodup_iff]
        exact List.nodup_cons.mpr ⟨m, nd6⟩
    · intro k
      rw [tk]
      have split : (∃ q ∈ prs.take i ++ [(x, y)], k = kOf (asc q)) ↔ (k = kOf (asc (x, y)) ∨ ∃ q ∈ prs.take i, k = kOf (asc q)) := by
        constructor
        · rintro ⟨q, hq, rfl⟩
          rcases List.mem_append.mp hq with hq | hq
          · exact .inr ⟨q, hq, rfl⟩
          · rw [List.mem_singleton.mp hq]
            exact .inl rfl
        · rintro (rfl | ⟨q, hq, rfl⟩)
          · exact ⟨(x, y), by simp, rfl⟩
          · exact ⟨q, List.mem_append_left _ hq, rfl⟩
      rw [split, ← mem6]
      by_cases m : kOf (asc (x, y)) ∈ L.map (·.2)
      · rw [c1 m]
        exact ⟨.inr, fun z => z.elim (fun e => e ▸ m) id⟩
      · rw [((c2 m).map _).mem_iff, List.map_cons, List.mem_cons]
  · rintro H6 ⟨s6, L, hD6, hL6, nd6, mem6⟩
    rw [List.length_map, ← len, List.take_length] at mem6
    have keyOf : ∀ k ∈ L.map (·.2), ∃ q ∈ prs, k = kOf (asc q) := fun k hk => (mem6 k).mp hk
    refine ⟨D, L, rfl, hD6, hL6, alike_pairs L fun p hp => ?_, fun p hp => ?_, fun L' p pL nd' hp => ⟨p, _, rfl, .inl ⟨SqL.of upd_same, fun l2 hl2 => ?_⟩⟩⟩
    · obtain ⟨q, _, e⟩ := keyOf _ (List.mem_map.mpr ⟨p, hp, rfl⟩)
      exact ⟨asc q, e⟩
    · obtain ⟨q, _, e⟩ := keyOf _ (List.mem_map.mpr ⟨p, hp, rfl⟩)
      rw [e]
      exact fun z => nomatch z
    obtain ⟨M, eM, pM⟩ := permLift (f := rowD) (List.mergeSort_perm (L'.map rowD) (dataLe false (·.2)))
    have eM : srt (L'.map rowD) = M.map rowD := eM
    have eF : (srt (L'.map rowD)).map (·.1) = M.map fun p => V.ref p.1 := by
      rw [eM, List.map_map]
      rfl
    have pML := pM.trans pL
    rw [eF] at hl2 ⊢
    have s8 := (s6.trans (sameNew (o := .lst (M.map fun p => V.ref p.1)) hp)).trans (sameNew (o := .tup (M.map fun p => V.ref p.1)) hl2)
    have s68 := (sameNew (o := .lst (M.map fun p => V.ref p.1)) hp).trans (sameNew (o := .tup (M.map fun p => V.ref p.1)) hl2)
    have t8 : upd (upd H6 p (.lst (M.map fun p => V.ref p.1))) l2 (.tup (M.map fun p => V.ref p.1)) l2 = some (.tup (M.map fun p => V.ref p.1)) := upd_same
    generalize upd (upd H6 p (.lst (M.map fun p => V.ref p.1))) l2 (.tup (M.map fun p => V.ref p.1)) = H8 at s8 s68 t8
    have hM8 : ∀ q ∈ M, H8 q.1 = some (.tup (q.2.map kV)) := fun q hq => s68 _ _ (hL6 q (pML.mem_iff.mp hq))
    have ndM : (M.map (·.2)).Nodup := (pML.map _).nodup_iff.mpr nd6
    have memM : ∀ k, k ∈ M.map (·.2) ↔ ∃ q ∈ prs, k = kOf (asc q) := fun k => by rw [(pML.map _).mem_iff]; exact mem6 k
    have o8 := s8 o _ o5
    refine ⟨_, rfl, o, C, dx, _, rfl, o8, c, n2, (by show 1 < 1000; decide), ?_⟩
    have lo2 : l2 ≠ o := fun z => by rw [z, o8] at t8; cases t8
    have f9 : ∀ c u, c ≠ o → H5 c = some u → upd H8 o (.ins C dx (putF "pairs" (.ref l2) [("kinds", .ref l)])) c = some u := fun c u hc e => by rw [upd_ne hc]; exact s8 c u e
    have o9 : upd H8 o (.ins C dx (putF "pairs" (.ref l2) [("kinds", .ref l)])) o = some (.ins C dx [("kinds", .ref l), ("pairs", .ref l2)]) := upd_same
    have k9 := f9 l _ lo k5
    have t9 : upd H8 o (.ins C dx (putF "pairs" (.ref l2) [("kinds", .ref l)])) l2 = some (.tup (M.map fun p => V.ref p.1)) := by rw [upd_ne lo2]; exact t8
    have m9 : ∀ q ∈ M, upd H8 o (.ins C dx (putF "pairs" (.ref l2) [("kinds", .ref l)])) q.1 = some (.tup (q.2.map kV)) := fun q hq => by
      have z := hM8 q hq
      rw [upd_ne fun y => by rw [y, o8] at z; cases z]
      exact z
    generalize upd H8 o (.ins C dx (putF "pairs" (.ref l2) [("kinds", .ref l)])) = H9 at f9 o9 k9 t9 m9
    have tup9 : SqT K H9 l2 (M.map fun p => V.ref p.1) := .inl (.inl t9)
    refine ⟨_, rfl, o, C, dx, _, .ref l2, rfl, o9, c, n2, rfl, l2, rfl, ⟨_, tup9⟩, fun D2 hD2 => ?_⟩
    have small : M.length ≤ 75 := by
      have z := nodup_le (M.map (·.2)) U ndM fun k hk => by
        obtain ⟨q, hq, rfl⟩ := (memM k).mp hk
        exact hpU q hq
      rw [List.length_map] at z
      omega
    refine so_it (walk_tup (K := K) (a := l2) (xs := M.map fun p => V.ref p.1)) (fun i H' => Same H9 H' ∧ H' D2 = some (.dT ((M.take i).map fun p => (p.2, V.bl true)))) ⟨sameNew hD2, upd_same⟩ (fun i H' _ z => Same.tup z.1 tup9) ?_ ?_
    · rintro i x H10 H11 hi ⟨s10, d10⟩ ⟨rfl, hx⟩
      rw [List.length_map] at hi
      obtain ⟨e, he, rfl⟩ : ∃ e, M[i]? = some e ∧ x = V.ref e.1 := by
        rw [List.getElem?_map] at hx
        cases q : M[i]? with
        | none => rw [q] at hx; cases hx
        | some z => rw [q] at hx; exact ⟨z, rfl, (Option.some.inj hx).symm⟩
      have tk : M.take (i + 1) = M.take i ++ [e] := by rw [List.take_succ, he]; rfl
      refine ⟨rfl, _, rfl, e.1, _, e.2, rfl, s10 _ _ (m9 e (List.mem_of_getElem? he)), d10, ?_, Same.upd s10 hD2, ?_⟩
      · rw [List.length_map, List.length_take, sizeLine_eq]
        omega
      · rw [upd_same, tk]
        have ne : ((M.take i).map fun p => (p.2, V.bl true)).any (fun kv => decide (kv.1 = e.2)) = false := by
          rw [List.any_eq_false]
          intro kv hkv z
          obtain ⟨q, hq, rfl⟩ := List.mem_map.mp hkv
          have z : q.2 = e.2 := of_decide_eq_true z
          have nd : (((M.take i) ++ [e]).map (·.2)).Nodup := by
            rw [← tk, List.map_take]
            exact ndM.sublist (List.take_sublist _ _)
          rw [List.map_append, List.nodup_append] at nd
          exact nd.2.2 q.2 (List.mem_map.mpr ⟨q, hq, rfl⟩) e.2 (by simp) z
        unfold putK
        rw [if_neg (by rw [ne]; exact Bool.false_ne_true), List.map_append]
        rfl
    · rintro H10 ⟨s10, d10⟩
      rw [List.length_map, List.take_length] at d10
      refine ⟨_, rfl, o, C, dx, _, rfl, s10 o _ o9, c, n3, (by show 2 < 1000; decide), ?_⟩
      have keysM : M.map (·.2) = (pairsOf prs).map kOf := sorted_keys eM ((pL.map _).nodup_iff.mpr nd6) fun k => by rw [(pL.map _).mem_iff]; exact mem6 k
      obtain ⟨fs1, efs⟩ : ∃ z : List (Str × V), z = [(("kinds" : Str), V.ref l), (("pairs" : Str), V.ref l2), (("_free" : Str), V.ref D2)] := ⟨_, rfl⟩
      have epf : putF "_free" (.ref D2) [(("kinds" : Str), V.ref l), (("pairs" : Str), V.ref l2)] = fs1 := by rw [efs]; rfl
      rw [epf]
      have oo : ∀ {q : Addr} {u : HO}, H10 q = some u → (∀ a b c, u ≠ .ins a b c) → q ≠ o := fun {q u} e n z => n _ _ _ (by rw [z, s10 o _ o9] at e; exact (Option.some.inj e).symm)
      have keep : ∀ {q : Addr} {u : HO}, H10 q = some u → (∀ a b c, u ≠ .ins a b c) → upd H10 o (.ins C dx fs1) q = some u := fun {q u} e n => by rw [upd_ne (oo e n)]; exact e
      have f11 : ∀ c u, c ≠ o → H c = some u → upd H10 o (.ins C dx fs1) c = some u := fun c u hc e => by
        rw [upd_ne hc]
        exact s10 _ _ (f9 c u hc (f5 c u hc e))
      have o11 : upd H10 o (.ins C dx fs1) o = some (.ins C dx fs1) := upd_same
      have k11 := keep (s10 _ _ k9) (fun _ _ _ z => nomatch z)
      have t11 := keep (s10 _ _ t9) (fun _ _ _ z => nomatch z)
      have m11 : ∀ q ∈ M, upd H10 o (.ins C dx fs1) q.1 = some (.tup (q.2.map kV)) := fun q hq => keep (s10 _ _ (m9 q hq)) (fun _ _ _ z => nomatch z)
      have d11 := keep d10 (fun _ _ _ z => nomatch z)
      generalize upd H10 o (.ins C dx fs1) = H11 at f11 o11 k11 t11 m11 d11
      have tk11 : SqT K H11 l ((srtTxt ks).map V.str) := .inl (.inl k11)
      refine ⟨_, rfl, o, C, dx, _, .ref l, rfl, o11, c, n1, (by rw [efs]; rfl), l, rfl, ⟨_, tk11⟩, fun D3 hD3 => ?_⟩
      have ndk : (srtTxt ks).Nodup := (srtTxt_perm ks).nodup_iff.mpr (kinds_nodup n0)
      have lk : (srtTxt ks).length ≤ 1000 := by rw [len_srtTxt]; exact hl
      refine dc_tup (xs := (srtTxt ks).map V.str) (fun i H' => Same H11 H' ∧ ∃ SL : List (Str × Addr), SL.map (·.1) = (srtTxt ks).take i ∧ H' D3 = some (.dK (SL.map fun p => (.inr p.1, V.ref p.2))) ∧ ∀ p ∈ SL, H' p.2 = some (.tup ((stopsOf (srtTxt ks) (pairsOf prs) p.1).map V.str)))
        ⟨sameNew hD3, [], rfl, upd_same, fun _ z => nomatch z⟩ (fun i H' _ z => Same.tup z.1 tk11) ?_ ?_
      · rintro i v H12 hv ⟨s12', SL, nm, e3, each3⟩
        obtain ⟨x, hx, rfl⟩ : ∃ x, (srtTxt ks)[i]? = some x ∧ v = V.str x := by
          rw [List.getElem?_map] at hv
          cases e : (srtTxt ks)[i]? with
          | none => rw [e] at hv; cases hv
          | some y => rw [e] at hv; exact ⟨y, rfl, (Option.some.inj hv).symm⟩
        have tk' : (srtTxt ks).take (i + 1) = (srtTxt ks).take i ++ [x] := by rw [List.take_succ, hx]; rfl
        refine ⟨rfl, _, rfl, _, rfl, o, dx, fs1, rfl, s12' _ _ o11, (by rw [efs]; rfl), _, rfl, ?_⟩
        refine ⟨o, dx, l, D2, fs1, x, srtTxt ks, M, pairsOf prs, rfl, s12' _ _ o11, (by rw [efs]; rfl), (by rw [efs]; rfl), Same.tup s12' tk11, lk, s12' _ _ d11, keysM, fun t H13 nt s13 et => ?_⟩
        have e13 := s13 _ _ e3
        have len3 : SL.length ≤ 1000 := by
          have z := congrArg List.length nm
          rw [List.length_map, List.length_take] at z
          omega
        refine ⟨_, .inr x, rfl, e13, ?_, Same.upd (s12'.trans s13) hD3, SL ++ [(x, t)], ?_, ?_, ?_⟩
        · rw [List.length_map]
          have : (1000 : Nat) < sizeLine := by decide
          omega
        · rw [List.map_append, nm, tk']
          rfl
        · rw [upd_same]
          have new : ((SL.map fun p => ((.inr p.1 : Key), V.ref p.2)).any fun kv => decide (kv.1 = .inr x)) = false := by
            rw [List.any_eq_false]
            intro kv hkv z
            obtain ⟨p, hp, rfl⟩ := List.mem_map.mp hkv
            have z : p.1 = x := Sum.inr.inj (of_decide_eq_true z)
            have nd' : ((srtTxt ks).take i ++ [x]).Nodup := by
              rw [← tk']
              exact ndk.sublist (List.take_sublist _ _)
            rw [List.nodup_append] at nd'
            exact nd'.2.2 p.1 (by rw [← nm]; exact List.mem_map.mpr ⟨p, hp, rfl⟩) x (by simp) z
          unfold putK
          rw [if_neg (by rw [new]; exact Bool.false_ne_true), List.map_append]
          rfl
        · intro p hp
          have ne : ∀ {a : Addr} {u : List V}, H13 a = some (.tup u) → a ≠ D3 := fun {a u} e z => by rw [z, e13] at e; cases e
          rcases List.mem_append.mp hp with hp | hp
          · have z := s13 _ _ (each3 p hp)
            rw [upd_ne (ne z)]
            exact z
          · rw [List.mem_singleton.mp hp, upd_ne (ne et)]
            exact et
      · rintro H12 ⟨s12', SL, nm, e3, each3⟩
        rw [List.length_map, List.take_length] at nm
        refine ⟨_, rfl, o, C, dx, _, rfl, s12' _ _ o11, c, n4, (by rw [efs]; show 3 < 1000; decide), ?_⟩
        have no : ∀ {q : Addr} {u : HO}, H12 q = some u → (∀ a b c, u ≠ .ins a b c) → q ≠ o := fun {q u} e n z => n _ _ _ (by rw [z, s12' o _ o11] at e; exact (Option.some.inj e).symm)
        have kp : ∀ {q : Addr} {u : HO}, H12 q = some u → (∀ a b c, u ≠ .ins a b c) → upd H12 o (.ins C dx (putF "_stops" (.ref D3) fs1)) q = some u := fun {q u} e n => by rw [upd_ne (no e n)]; exact e
        refine q0 n0 p0 _ l l2 D2 D3 M SL (fun q u hq e => ?_) ⟨n0, pairs_ok (by rw [← tw]; exact p0), ?_, ?_, ?_, fun q hq => ?_, keysM, ?_, nm, ?_, fun q hq => ?_⟩
        · rw [upd_ne hq]
          exact s12' _ _ (f11 q u hq e)
        · rw [upd_same, efs]
          rfl
        · exact kp (s12' _ _ k11) (fun _ _ _ z => nomatch z)
        · exact kp (s12' _ _ t11) (fun _ _ _ z => nomatch z)
        · exact kp (s12' _ _ (m11 q hq)) (fun _ _ _ z => nomatch z)
        · exact kp (s12' _ _ d11) (fun _ _ _ z => nomatch z)
        · exact kp e3 (fun _ _ _ z => nomatch z)
        · exact kp (each3 q hq) (fun _ _ _ z => nomatch z)
end
end L2.Und
end

section
set_option Elab.async false
set_option linter.all false
set_option maxRecDepth 100000
set_option maxHeartbeats 4000000
namespace L2.Und
open PySem PySem.Spec PyProof.Rows _root_.Und
open L2.KS SX
open PySem.W (findIn keepIn typeIn subIn dataLe dataLt AllAlike Sortable)
/-! ### is_name of the law -/
abbrev sLName : Stmt := topS 25
theorem scLName : FnScope ["_law_word", "_law_letter"] ["_law_word"] (defScope sLName) := ⟨rfl, rfl, rfl, by decide +kernel, rfl, by decide +kernel, by decide +kernel⟩
def Ascii (z : Str) : Prop := ∀ c ∈ z.cps.toList, c < 128
def spLName : Sp := fun vs H Q _ => ∃ z : Str, vs = [.str z] ∧ z.length ≤ 1000 ∧ Ascii z ∧ ∀ H', Same H H' → Q (.bl (IsName z)) H'
def alph : List Nat := [97, 98, 99, 100, 101, 102, 103, 104, 105, 106, 107, 108, 109, 110, 111, 112, 113, 114, 115, 116, 117, 118, 119, 120, 121, 122]
theorem alph_mem (c : Nat) : decide (c ∈ alph) = isLet c := by
  by_cases h : c < 128
  · revert c
    decide +kernel
  · have e : isLet c = false := by
      unfold isLet
      rw [decide_eq_false (by omega : ¬ c ≤ 122), Bool.and_false]
    rw [e]
    refine decide_eq_false fun z => h ?_
    have all : ∀ x ∈ alph, x < 128 := by decide
    exact all c z
theorem dpLetters {K : PySem.W.Frag} {H : Hp} : ∀ l : List Nat, DpAll K H (l.map fun c => V.str ⟨#[c]⟩) (l.map fun c => PyData.str ⟨#[c]⟩)
  | [] => .nil
  | c :: l => .cons (.str _) (dpLetters l)
theorem shapedLetters (l : List Nat) (h : ∀ c ∈ l, c < 128) : SeqAt.shaped (.list (l.map fun c => PyData.str ⟨#[c]⟩)) = true := by
  have d : ∀ l : List Nat, PyData.depthAll (l.map fun c => PyData.str ⟨#[c]⟩) = 0 := fun l => by
    induction l with
    | nil => simp [PyData.depthAll]
    | cons c l ih => simp [PyData.depthAll, PyData.depth, ih]
  have o : ∀ l : List Nat, (∀ c ∈ l, c < 128) → PyData.canLayAll0 (l.map fun c => PyData.str ⟨#[c]⟩) = true := fun l => by
    induction l with
    | nil => intro _; simp [PyData.canLayAll0]
    | cons c l ih =>
      intro h
      have a := ih fun x hx => h x (List.mem_cons_of_mem _ hx)
      have b := h c List.mem_cons_self
      have e : PyData.strOk ⟨#[c]⟩ = true := by
        unfold PyData.strOk
        simp
        omega
      simp [PyData.canLayAll0, PyData.canLay0, a, e]
  unfold SeqAt.shaped
  simp [PyData.canLay0, PyData.depth, d l, o l h]
section
variable {P : Program} {w : World} {K : PySem.W.Frag} {mg : Str → Option Value} {base : Heap}
theorem okLName {f : Addr} {fd : FuncData} (F : Fun K "_law_is_name" "_law_is_name" sLName f fd) (mL : mg "len" = none) :
    FnOk P w K mg base CX0 1 f fd ["_law_word"] spLName := by
  refine F.ok scLName (fun vs H Q E h => ?_) (fun cdv A outer s H vs Q E hr h => ?_)
  · obtain ⟨z, rfl, _⟩ := h
    rfl
  have hu : (A.deeper (envOfC "_law_is_name" (defScope sLName) s.heap.objs.size f cdv)).units + 64 < cLine := by have := hr.un; omega
  refine ⟨_, pss_one (ps_ret (pe_and (pe_chain op_lt op_lt pe_int (pe_callB call_len_str rfl mL PySem.boot_len (pa_cons (pv 0) pa_nil)) pe_int)
    (pe_one (pe_cmpR (op_eqD hu) (pe_lc (own := [("_law_letter", 1)]) (g := gName 1) rfl scLName.nd (pi_str (pv 0)) (blkOk_by (N := ["_law_word", "_law_letter"]) (sc := defScope sLName) (by decide +kernel))
      (fun _ _ _ _ _ => pg_name (i := 1) scLName.nd rfl (Or.inl rfl)) (fun _ _ _ _ _ => pts_one (pt_cmpR op_notin_str (pv 1) pe_str rfl))
      (fun _ _ _ _ _ => pv 1)) (pe_lst pa_nil) (nomark _))))), ?_⟩
  obtain ⟨z, rfl, hz, ha, q⟩ := h
  have zl : z.length = z.cps.size := rfl
  refine ⟨_, rfl, z, rfl, fits hz, _, _, rfl, rfl, ?_⟩
  have nm : IsName z = (decide (1 ≤ z.cps.size) && decide (z.cps.size ≤ 6) && z.cps.all isLet) := rfl
  refine ⟨_, rfl, ?_⟩
  refine ite2 (fun a => ?_) (fun a => ?_)
  · have a0 : (0 : Int) < (z.length : Int) := of_decide_eq_true a
    have a1 : decide (1 ≤ z.cps.size) = true := decide_eq_true (by omega)
    refine ⟨_, _, rfl, rfl, _, rfl, ?_⟩
    refine ite2 (fun b => ?_) (fun b => ?_)
    · have b0 : (z.length : Int) < 7 := of_decide_eq_true b
      have b1 : decide (z.cps.size ≤ 6) = true := decide_eq_true (by omega)
      refine ⟨_, rfl, z, rfl, fun D hD => ?_⟩
      have hN := sameNew (o := .lst []) hD
      refine lc_it walk_str (fun i H' => Same H H' ∧ H' D = some (.lst (((z.cps.toList.take i).filter fun c => !isLet c).map fun c => V.str ⟨#[c]⟩))) ⟨hN, upd_same⟩ (fun _ _ _ _ => True.intro) ?_ ?_
      · rintro i x H1 H2 hi ⟨g1, g2⟩ ⟨rfl, c, hc, rfl⟩
        have hc' : z.cps.toList[i]? = some c := by rw [Array.getElem?_toList]; exact hc
        have tk : z.cps.toList.take (i + 1) = z.cps.toList.take i ++ [c] := by rw [List.take_succ, hc']; rfl
        refine ⟨rfl, _, rfl, _, _, rfl, rfl, ?_⟩
        have occ : (!(!(Builtin.Str.occurrences ("abcdefghijklmnopqrstuvwxyz" : Str) ⟨#[c]⟩ 0 ("abcdefghijklmnopqrstuvwxyz" : Str).length 1).isEmpty)) = !isLet c := by
          have e : ("abcdefghijklmnopqrstuvwxyz" : Str) = S alph := by decide +kernel
          rw [e]
          show (!(!(Builtin.Str.occurrences (S alph) (S [c]) 0 (S alph).length 1).isEmpty)) = _
          rw [in_one, alph_mem]
        refine ⟨_, rfl, ?_⟩
        show if (!(!(Builtin.Str.occurrences ("abcdefghijklmnopqrstuvwxyz" : Str) ⟨#[c]⟩ 0 ("abcdefghijklmnopqrstuvwxyz" : Str).length 1).isEmpty)) = true then _ else _
        rw [occ]
        refine ite2 (fun k => ?_) (fun k => ?_)
        · refine ⟨_, rfl, _, g2, ?_, Same.upd g1 hD, ?_⟩
          · rw [List.length_map]
            have := List.length_filter_le (fun c => !isLet c) (z.cps.toList.take i)
            rw [List.length_take] at this
            exact small1000 (by omega)
          · rw [upd_same, tk, List.filter_append, List.map_append]
            simp [k]
        · refine ⟨g1, ?_⟩
          rw [g2, tk, List.filter_append, List.map_append]
          simp [k]
      · rintro H2 ⟨g1, g2⟩
        rw [show z.cps.size = z.cps.toList.length from (Array.length_toList).symm, List.take_length] at g2
        refine ⟨Nat.zero_le _, fun p hp => ?_⟩
        have s3 := sameNew (o := .lst []) hp
        refine ⟨_, _, .lst (SqL.of (s3 D _ g2)) (dpLetters (z.cps.toList.filter fun c => !isLet c)), .lst (SqL.of upd_same) .nil, shapedLetters _ (fun c hc => ha c (List.mem_filter.mp hc).1), by decide +kernel, ?_⟩
        have e : PyData.eqv (.list ((z.cps.toList.filter fun c => !isLet c).map fun c => PyData.str ⟨#[c]⟩)) (.list []) = IsName z := by
          rw [nm, a1, b1, Bool.true_and, Bool.true_and, ← Array.all_toList]
          have en := eqvNil (ds := (z.cps.toList.filter fun c => !isLet c).map fun c => PyData.str ⟨#[c]⟩)
          have en2 : ∀ x y : Bool, (!x) = !y → x = y := by decide
          rw [en2 _ _ en]
          by_cases h : z.cps.toList.all isLet = true
          · rw [h, List.isEmpty_iff, List.map_eq_nil_iff, List.filter_eq_nil_iff]
            intro c hc
            rw [List.all_eq_true.mp h c hc]
            decide
          · have h' : z.cps.toList.all isLet = false := by simpa using h
            rw [h']
            cases e : (z.cps.toList.filter fun c => !isLet c) with
            | cons _ _ => rfl
            | nil =>
              refine absurd ?_ h
              rw [List.all_eq_true]
              intro c hc
              have := List.filter_eq_nil_iff.mp e c hc
              simpa using this
        rw [e]
        exact q _ (g1.trans s3)
    · have e : IsName z = false := by
        have b0 : ¬ ((z.length : Int) < 7) := fun y => b (decide_eq_true y)
        rw [nm, decide_eq_false (by omega : ¬ z.cps.size ≤ 6), Bool.and_false, Bool.false_and]
      have q0 := q H (Same.refl H)
      rw [e] at q0
      exact q0
  · have e : IsName z = false := by
      have b0 : ¬ ((0 : Int) < (z.length : Int)) := fun y => a (decide_eq_true y)
      rw [nm, decide_eq_false (by omega : ¬ 1 ≤ z.cps.size), Bool.false_and, Bool.false_and]
    have q0 := q H (Same.refl H)
    rw [e] at q0
    exact ⟨_, rfl, iteF q0⟩
end
end L2.Und
end

section
set_option Elab.async false
set_option linter.all false
set_option maxRecDepth 100000
set_option maxHeartbeats 4000000
namespace L2.Und
open PySem PySem.Spec PyProof.Rows _root_.Und
/-! ### drawn kinds and pairs are as they must be -/
theorem good_kinds {ks : List Str} {n : Nat} (g : GoodNames ks n) (h1 : 1 ≤ n) (h2 : n ≤ 12) : kindsBad ks = none := by
  have l := g.len
  unfold kindsBad
  rw [if_pos ⟨by omega, by omega⟩, firstBad_none fun j hj => ?_]
  · rfl
  unfold badAt
  rw [List.getElem?_eq_getElem hj]
  have nm := g.nm _ (List.getElem_mem hj)
  have nt : ks[j] ∉ ks.take j := fun m => by
    obtain ⟨i, hi, e⟩ := List.mem_iff_getElem.mp m
    rw [List.length_take] at hi
    rw [List.getElem_take] at e
    exact List.pairwise_iff_getElem.mp g.nd i j (by omega) hj (by omega) e
  show (!IsName ks[j] || decide (ks[j] ∈ ks.take j)) = false
  rw [nm, decide_eq_false nt]
  rfl
theorem good_pairs {ks : List Str} {xs : List (Str × Str)} (h : ∀ p ∈ xs, p.1 ∈ ks ∧ p.2 ∈ ks ∧ p.1 ≠ p.2) : pairsBad ks (xs.map fun p => [p.1, p.2]) = none := by
  refine pairsBad_none fun j hj => ?_
  rw [List.length_map] at hj
  unfold pairBadAt
  rw [List.getElem?_map, List.getElem?_eq_getElem hj]
  obtain ⟨a, b, c⟩ := h _ (List.getElem_mem hj)
  show (!(decide (xs[j].1 ≠ xs[j].2) && decide (xs[j].1 ∈ ks) && decide (xs[j].2 ∈ ks))) = false
  rw [decide_eq_true a, decide_eq_true b, decide_eq_true c]
  rfl
theorem name_short {z : Str} (h : IsName z = true) : z.length ≤ 6 ∧ ∀ c ∈ z.cps.toList, c < 128 := by
  unfold IsName at h
  rw [Bool.and_eq_true, Bool.and_eq_true] at h
  refine ⟨of_decide_eq_true h.1.2, fun c hc => ?_⟩
  have z := h.2
  rw [← Array.all_toList] at z
  have := List.all_eq_true.mp z c hc
  rw [Bool.and_eq_true] at this
  have := of_decide_eq_true this.2
  omega
theorem pairs_few {ks : List Str} {xs : List (Str × Str)} (g : GoodPairs ks xs) (h : ks.length ≤ 12) : xs.length ≤ 66 := by
  have l := g.len
  have t : ∀ n, n ≤ 12 → tri n ≤ 66 := by decide
  have := t ks.length h
  omega
end L2.Und
end

section
set_option Elab.async false
set_option linter.all false
set_option maxRecDepth 100000
set_option maxHeartbeats 4000000
namespace L2.Und
open PySem PySem.Spec PyProof.Rows _root_.Und
/-! ### repr of any data where no repr is under way; the first violation as data -/
def resD : Option (Str × Int) → PyData
  | none => .none
  | some (t, i) => .tuple [.str t, .int i]
def dueOf (ks : List Str) (ps : List (List Str)) : Option (Str × Int) := match kindsBad ks with
  | some x => some x
  | none => (pairsBad ks ps).map fun i => ("pair", (i : Int))
theorem due_small {ks : List Str} {ps : List (List Str)} {t : Str} {i : Int} (h : dueOf ks ps = some (t, i)) (hk : ks.length ≤ 100) (hp : ps.length ≤ 100) : t ∈ [("count" : Str), "name", "pair"] ∧ (i = -1 ∨ ∃ n : Nat, i = (n : Int) ∧ n < 100) := by
  unfold dueOf at h
  cases e : kindsBad ks with
  | some x =>
    rw [e] at h
    obtain rfl : x = (t, i) := Option.some.inj h
    unfold kindsBad at e
    by_cases c : 1 ≤ ks.length ∧ ks.length ≤ 12
    · rw [if_pos c] at e
      cases f : firstBad ks with
      | none => rw [f] at e; cases e
      | some n =>
        rw [f] at e
        have e : (("name" : Str), (n : Int)) = (t, i) := Option.some.inj e
        obtain ⟨rfl, rfl⟩ := Prod.mk.inj e
        have m := List.mem_range.mp (List.mem_of_find?_eq_some f)
        exact ⟨by simp, .inr ⟨n, rfl, by omega⟩⟩
    · rw [if_neg c] at e
      have e : (("count" : Str), (-1 : Int)) = (t, i) := Option.some.inj e
      obtain ⟨rfl, rfl⟩ := Prod.mk.inj e
      exact ⟨by simp, .inl rfl⟩
  | none =>
    rw [e] at h
    cases f : pairsBad ks ps with
    | none => rw [f] at h; cases h
    | some n =>
      rw [f] at h
      have e : (("pair" : Str), (n : Int)) = (t, i) := Option.some.inj h
      obtain ⟨rfl, rfl⟩ := Prod.mk.inj e
      have m := List.mem_range.mp (List.mem_of_find?_eq_some f)
      exact ⟨by simp, .inr ⟨n, rfl, by omega⟩⟩
theorem res_shows {r : Option (Str × Int)} (h : ∀ t i, r = some (t, i) → t ∈ [("count" : Str), "name", "pair"] ∧ (i = -1 ∨ ∃ n : Nat, i = (n : Int) ∧ n < 100)) :
    (resD r).showable = true ∧ (resD r).hasDict = false ∧ (resD r).depth ≤ 40 ∧ (resD r).shown.length ≤ 1000 := by
  cases r with
  | none => decide +kernel
  | some x =>
    obtain ⟨t, i⟩ := x
    obtain ⟨h1, h2⟩ := h t i rfl
    have neg : ∀ t ∈ [("count" : Str), "name", "pair"], (resD (some (t, -1))).showable = true ∧ (resD (some (t, -1))).hasDict = false ∧ (resD (some (t, -1))).depth ≤ 40 ∧ (resD (some (t, -1))).shown.length ≤ 1000 := by decide +kernel
    have pos : ∀ n : Nat, n < 100 → ∀ t ∈ [("count" : Str), "name", "pair"], (resD (some (t, (n : Int)))).showable = true ∧ (resD (some (t, (n : Int)))).hasDict = false ∧ (resD (some (t, (n : Int)))).depth ≤ 40 ∧ (resD (some (t, (n : Int)))).shown.length ≤ 1000 := by decide +kernel
    rcases h2 with rfl | ⟨n, rfl, hn⟩
    · exact neg t h1
    · exact pos n hn t h1
/-- repr of what rShow knows, and of None -/
def rShowN (K : PySem.W.Frag) : List V → Hp → VK → Prop := fun xs H Q => rShow K xs H Q ∨ (xs = [.non] ∧ Q (.str (resD none).shown) H)
theorem callShowN {X : Cx} (hg : X.A.guards = some []) (hu : X.A.units + 64 < cLine) : CallR X (.builtin "repr") (rShowN X.K) := by
  refine CallR.or (callShow hg hu) fun pins s σ H xs us Q I r h => ?_
  obtain ⟨rfl, q⟩ := h
  obtain ⟨u, rfl, ru⟩ := vals1 r
  cases (show u = Value.none from ru)
  have e : (resD none).shown = "None" := by decide +kernel
  rw [e] at q
  exact PySem.P.repr_of_none ⟨.str "None", H, I.tok _, ⟨_, rfl⟩, q⟩
/-- a violation, or None, as a value -/
def Res (x : V) (r : Option (Str × Int)) (H : Hp) : Prop := (r = none ∧ x = .non) ∨ ∃ (a : Addr) (t : Str) (i : Int), r = some (t, i) ∧ x = .ref a ∧ H a = some (.tup [.str t, .int i])
theorem Res.same {x : V} {r : Option (Str × Int)} {H H' : Hp} (h : Res x r H) (s : Same H H') : Res x r H' := by
  rcases h with h | ⟨a, t, i, h1, h2, h3⟩
  · exact .inl h
  · exact .inr ⟨a, t, i, h1, h2, s _ _ h3⟩
theorem Res.shows {K : PySem.W.Frag} {x : V} {r : Option (Str × Int)} {H : Hp} {Q : VK} (h : Res x r H) (sm : ∀ t i, r = some (t, i) → t ∈ [("count" : Str), "name", "pair"] ∧ (i = -1 ∨ ∃ n : Nat, i = (n : Int) ∧ n < 100)) (q : Q (.str (resD r).shown) H) : rShowN K [x] H Q := by
  obtain ⟨s1, s2, s3, s4⟩ := res_shows sm
  rcases h with ⟨rfl, rfl⟩ | ⟨a, t, i, rfl, rfl, h3⟩
  · exact .inr ⟨rfl, q⟩
  · exact .inl ⟨a, _, rfl, .tup (SqT.of h3) (.cons (.str t) (.cons (.int i) .nil)), s1, s2, s3, Nat.le_trans s4 (Nat.le_of_lt (small1000 (Nat.le_refl _))), q⟩
end L2.Und
end

section
set_option Elab.async false
set_option linter.all false
set_option maxRecDepth 100000
set_option maxHeartbeats 4000000
namespace L2.Und
open PySem PySem.Spec PyProof.Rows _root_.Und
open L2.KS SX
open PySem.W (findIn keepIn typeIn subIn dataLe dataLt AllAlike Sortable)
/-! ### what is due, in the law's own words -/
abbrev sDue : Stmt := topS 26
theorem scDue : FnScope ["_law_kinds", "_law_pairs_here", "_law_at", "_law_kind", "_law_pair"] ["_law_kinds", "_law_pairs_here"] (defScope sDue) := ⟨rfl, rfl, rfl, by decide +kernel, rfl, by decide +kernel, by decide +kernel⟩
def spDue (K : PySem.W.Frag) : Sp := fun vs H Q _ => ∃ (a b : Addr) (ks : List Str) (ps : List (Addr × (Str × Str))), vs = [.ref a, .ref b] ∧ SqL K H a (ks.map V.str) ∧ SqL K H b (ps.map fun e => V.ref e.1) ∧
  (∀ e ∈ ps, SqT K H e.1 [.str e.2.1, .str e.2.2]) ∧ ks.length ≤ 1000 ∧ (∀ k ∈ ks, k.length ≤ 1000 ∧ Ascii k) ∧
  (dueOf ks (ps.map fun e => [e.2.1, e.2.2]) = none → ∀ H', Same H H' → Q .non H') ∧
  ∀ t i, dueOf ks (ps.map fun e => [e.2.1, e.2.2]) = some (t, i) → ∀ (p : Addr) (H' : Hp), Same H H' → H p = none → H' p = some (.tup [.str t, .int i]) → Q (.ref p) H'
section
variable {P : Program} {w : World} {K : PySem.W.Frag} {mg : Str → Option Value} {base : Heap}
theorem okDue {f fN : Addr} {fd fdN : FuncData} (F : Fun K "_law_due" "_law_due" sDue f fd)
    (GN : FnOk P w K mg base CX0 1 fN fdN ["_law_word"] spLName) (mN : mg "_law_is_name" = some (.ref fN)) (kN : keepIn K (.ref fN) = true) (bN : Binds K fdN ["_law_word"] [])
    (mL : mg "len" = none) (mE : mg "enumerate" = none) : FnOk P w K mg base CX0 2 f fd ["_law_kinds", "_law_pairs_here"] (spDue K) := by
  refine F.ok scDue (fun vs H Q E h => ?_) (fun cdv A outer s H vs Q E hr h => ?_)
  · obtain ⟨a, b, ks, ps, rfl, _⟩ := h
    rfl
  refine ⟨_, pss_cons (ps_if (pt_not (pt_chain op_lt op_lt pe_int (pe_callB call_len_seq rfl mL PySem.boot_len (pa_cons (pv 0) pa_nil)) pe_int))
        (pss_one (ps_ret (pe_tup (pa_cons pe_str (pa_cons (pe_op op_sub pe_int pe_int) pa_nil))))) pss_nil)
    (pss_cons (ps_for PassesOwn.never rfl (pi_enum rfl mE (pa_cons (pv 0) pa_nil)) (pg_tup rfl (pgs_cons (pg_name (i := 2) scDue.nd rfl (Or.inl rfl)) (pgs_cons (pg_name (i := 3) scDue.nd rfl (Or.inl rfl)) pgs_nil)))
      (pss_one (ps_if (PW.pt (pw_or (pt_not (pt_val (pe_call GN hr rfl mN kN bN .nil pass0 (pa_cons (pv 3) pa_nil))))
          (pw_or1 (pt_cmpR op_in_seq (pv 3) (pe_slice sl_list (pv 0) po_none (po_some (pv 2))) rfl))))
        (pss_one (ps_ret (pe_tup (pa_cons pe_str (pa_cons (pv 2) pa_nil))))) pss_nil)))
    (pss_cons (ps_for PassesOwn.never rfl (pi_enum rfl mE (pa_cons (pv 1) pa_nil)) (pg_tup rfl (pgs_cons (pg_name (i := 2) scDue.nd rfl (Or.inl rfl)) (pgs_cons (pg_name (i := 4) scDue.nd rfl (Or.inl rfl)) pgs_nil)))
      (pss_one (ps_if (PW.pt (pw_or (pt_cmpR op_notIn_seq (pe_ix ix_seq (pv 4) pe_int (fun _ _ => rfl)) (pv 0) rfl)
          (pw_or (pt_cmpR op_notIn_seq (pe_ix ix_seq (pv 4) pe_int (fun _ _ => rfl)) (pv 0) rfl)
          (pw_or1 (pt_cmpR op_eq (pe_ix ix_seq (pv 4) pe_int (fun _ _ => rfl)) (pe_ix ix_seq (pv 4) pe_int (fun _ _ => rfl)) (nomark _))))))
        (pss_one (ps_ret (pe_tup (pa_cons pe_str (pa_cons (pv 2) pa_nil))))) pss_nil)))
    (pss_one (ps_ret pe_non)))), ?_⟩
  obtain ⟨a, b, ks, ps, rfl, hs, hb, hps, hl, hkl, q0, qE⟩ := h
  have cnt : ¬ (1 ≤ ks.length ∧ ks.length ≤ 12) → kindsBad ks = some (("count" : Str), (-1 : Int)) := fun z => if_neg z
  have due1 : ∀ {t i}, kindsBad ks = some (t, i) → dueOf ks (ps.map fun e => [e.2.1, e.2.2]) = some (t, i) := fun z => by
    unfold dueOf
    rw [z]
  have dueC : ¬ (1 ≤ ks.length ∧ ks.length ≤ 12) → dueOf ks (ps.map fun e => [e.2.1, e.2.2]) = some (("count" : Str), (-1 : Int)) := fun z => due1 (cnt z)
  refine ⟨_, rfl, a, _, rfl, .inl hs, _, _, rfl, rfl, _, rfl, ?_⟩
  rw [List.length_map]
  have bad0 : ¬ (1 ≤ ks.length ∧ ks.length ≤ 12) → ∀ (p : Addr), H p = none → Q (.ref p) (upd H p (.tup [.str "count", .int (0 - 1)])) := fun z p hp => qE _ _ (dueC z) p _ (sameNew hp) hp upd_same
  refine ite2 (fun c1 => ?_) (fun c1 => ?_)
  · have g1 : 1 ≤ ks.length := by
      have z : (0 : Int) < (ks.length : Int) := of_decide_eq_true c1
      omega
    refine ⟨_, _, rfl, rfl, _, rfl, ?_⟩
    by_cases g2 : ks.length ≤ 12
    · have e : (!decide ((ks.length : Int) < 13)) = false := by rw [decide_eq_true (by omega)]; rfl
      show if (!decide ((ks.length : Int) < 13)) = true then _ else _
      rw [e]
      refine iteF ?_
      refine ⟨_, rfl, a, _, rfl, hs, for_it (walk_enum (K := K) (a := a) (xs := ks.map V.str)) (fun i σ H' => ∃ x1 x2 x3 : Option V, σ = [some (.ref a), some (.ref b), x1, x2, x3] ∧ Same H H' ∧ ∀ j, j < i → badAt ks j = false) ⟨_, _, _, rfl, Same.refl H, fun j z => absurd z (Nat.not_lt_zero j)⟩
          (fun i σ H' _ ⟨_, _, _, _, s, _⟩ => s.seq hs) ?_ ?_⟩
      · rintro i x σ H3 H4 hi ⟨x1, x2, x3, rfl, s3, okj⟩ ⟨T0, y1, y2, rfl, hT, rfl, e1, e2⟩
        rw [List.length_map] at hi
        obtain ⟨k, hk, rfl⟩ : ∃ k, ks[i]? = some k ∧ y2 = V.str k := by
          have y3 : (ks.map V.str)[i]? = some y2 := e2
          rw [List.getElem?_map] at y3
          cases e : ks[i]? with
          | none => rw [e] at y3; cases y3
          | some z => rw [e] at y3; exact ⟨z, rfl, (Option.some.inj y3).symm⟩
        obtain rfl : y1 = V.int (i : Nat) := (Option.some.inj e1).symm
        have s4 := s3.trans (sameNew (o := .tup [V.int (i : Nat), V.str k]) hT)
        refine ⟨T0, _, rfl, SqT.of upd_same, rfl, _, _, rfl, _, _, rfl, rfl, ?_⟩
        have bad : badAt ks i = (!IsName k || decide (k ∈ ks.take i)) := by
          unfold badAt
          rw [hk]
        have fb : badAt ks i = true → kindsBad ks = some (("name" : Str), (i : Int)) := fun z => by
          unfold kindsBad
          rw [if_pos ⟨g1, g2⟩, firstBad_at hi z okj]
          rfl
        have hk1 := hkl k (List.mem_of_getElem? hk)
        refine ⟨_, rfl, k, rfl, hk1.1, hk1.2, fun H5 s5 => ⟨_, rfl, ?_⟩⟩
        have s45 := s4.trans s5
        refine ite2 (fun n => ?_) (fun n => ?_)
        · have n : (!IsName k) = true := n
          refine iteT ⟨_, rfl, (by show 2 ≤ sizeLine; decide), fun p hp => ?_⟩
          exact qE "name" i (due1 (fb (by rw [bad, n, Bool.true_or]))) p _ (s45.trans (sameNew hp)) (s45.free hp) upd_same
        · have n : (!IsName k) = false := by
            have n : ¬ (!IsName k) = true := n
            simpa using n
          refine ⟨_, rfl, _, rfl, _, rfl, _, rfl, a, _, rfl, s45.seq hs, fun p hp => ?_⟩
          have s6 := sameNew (o := .lst (cutV (ks.map V.str) none (some (i : Int)))) hp
          refine ⟨p, (ks.take i).map V.str, rfl, .inl (SqL.of (by rw [← cutA (Nat.le_of_lt hi)]; exact upd_same)), rfl, flatStr _, _, rfl, ?_⟩
          have e : (if false = true then !inV (V.str k) ((ks.take i).map V.str) else inV (V.str k) ((ks.take i).map V.str)) = decide (k ∈ ks.take i) := by rw [if_neg Bool.false_ne_true, inStr]
          rw [e]
          have s46 := s45.trans s6
          refine ite2 (fun m => ?_) (fun m => ?_)
          · have m : decide (k ∈ ks.take i) = true := m
            refine ⟨_, rfl, (by show 2 ≤ sizeLine; decide), fun p2 hp2 => ?_⟩
            exact qE "name" i (due1 (fb (by rw [bad, m, Bool.or_true]))) p2 _ (s46.trans (sameNew hp2)) (s46.free hp2) upd_same
          · have m : decide (k ∈ ks.take i) = false := by simpa using m
            refine ⟨_, _, _, rfl, s46, fun j hj => ?_⟩
            rcases Nat.lt_succ_iff_lt_or_eq.mp hj with hj | rfl
            · exact okj j hj
            · rw [bad, n, m]
              rfl
      · rintro σ H3 ⟨x1, x2, x3, rfl, s3, okj⟩
        rw [List.length_map] at okj
        have kn : kindsBad ks = none := by
          unfold kindsBad
          rw [if_pos ⟨g1, g2⟩, firstBad_none okj]
          rfl
        have due2 : dueOf ks (ps.map fun e => [e.2.1, e.2.2]) = (pairsBad ks (ps.map fun e => [e.2.1, e.2.2])).map fun i => (("pair" : Str), (i : Int)) := by
          unfold dueOf
          rw [kn]
        refine ⟨_, rfl, b, _, rfl, s3.seq hb, for_it (walk_enum (K := K) (a := b) (xs := ps.map fun e => V.ref e.1)) (fun i σ H' => ∃ x1 x2 x3 : Option V, σ = [some (.ref a), some (.ref b), x1, x2, x3] ∧ Same H H' ∧ ∀ j, j < i → pairBadAt ks (ps.map fun e => [e.2.1, e.2.2]) j = false) ⟨_, _, _, rfl, s3, fun j z => absurd z (Nat.not_lt_zero j)⟩
          (fun i σ H' _ ⟨_, _, _, _, s, _⟩ => s.seq hb) ?_ ?_⟩
        · rintro i x σ H4 H5 hi ⟨x1, x2, x3, rfl, s4, okp⟩ ⟨T0, y1, y2, rfl, hT, rfl, e1, e2⟩
          rw [List.length_map] at hi
          obtain ⟨e, he, rfl⟩ : ∃ e, ps[i]? = some e ∧ y2 = V.ref e.1 := by
            have y3 : (ps.map fun e => V.ref e.1)[i]? = some y2 := e2
            rw [List.getElem?_map] at y3
            cases q : ps[i]? with
            | none => rw [q] at y3; cases y3
            | some z => rw [q] at y3; exact ⟨z, rfl, (Option.some.inj y3).symm⟩
          obtain rfl : y1 = V.int (i : Nat) := (Option.some.inj e1).symm
          have s5 := s4.trans (sameNew (o := .tup [V.int (i : Nat), V.ref e.1]) hT)
          have hp5 : SqT K _ e.1 [.str e.2.1, .str e.2.2] := Same.tup s5 (hps e (List.mem_of_getElem? he))
          have hs5 : SqL K _ a (ks.map V.str) := s5.seq hs
          refine ⟨T0, _, rfl, SqT.of upd_same, rfl, _, _, rfl, _, _, rfl, rfl, ?_⟩
          have bad : pairBadAt ks (ps.map fun e => [e.2.1, e.2.2]) i = !isPr ks [e.2.1, e.2.2] := by
            unfold pairBadAt
            rw [List.getElem?_map, he]
            rfl
          have fin : isPr ks [e.2.1, e.2.2] = false → ∀ (p : Addr), upd H4 T0 (.tup [V.int (i : Nat), V.ref e.1]) p = none → Q (.ref p) (upd (upd H4 T0 (.tup [V.int (i : Nat), V.ref e.1])) p (.tup [.str "pair", .int (i : Nat)])) := fun z p hp =>
            qE "pair" i (by rw [due2, pairsBad_at (by rw [List.length_map]; exact hi) (by rw [bad, z]; rfl) okp]; rfl) p _ (s5.trans (sameNew hp)) (s5.free hp) upd_same
          have pr : isPr ks [e.2.1, e.2.2] = (decide (e.2.1 ≠ e.2.2) && decide (e.2.1 ∈ ks) && decide (e.2.2 ∈ ks)) := rfl
          rw [pr] at fin bad
          have at_ : ∀ {j : Nat} {y : Str} {R : VK}, [e.2.1, e.2.2][j]? = some y → R (.str y) (upd H4 T0 (.tup [V.int (i : Nat), V.ref e.1])) → rIx K (.ref e.1) (.int (j : Int)) (upd H4 T0 (.tup [V.int (i : Nat), V.ref e.1])) R := fun {j y R} hy r => by
            have q : atI ([e.2.1, e.2.2].map V.str) ((j : Nat) : Int) = some (.str y) := atI_nat (by rw [List.getElem?_map, hy]; rfl)
            exact .inr (.inl ⟨e.1, _, _, _, rfl, rfl, hp5, q, r⟩)
          have i1 : (if true = true then !inV (V.str e.2.1) (ks.map V.str) else inV (V.str e.2.1) (ks.map V.str)) = !decide (e.2.1 ∈ ks) := by rw [if_pos rfl, inStr]
          have i2 : (if true = true then !inV (V.str e.2.2) (ks.map V.str) else inV (V.str e.2.2) (ks.map V.str)) = !decide (e.2.2 ∈ ks) := by rw [if_pos rfl, inStr]
          have flip : ∀ {b : Bool}, ¬ (!b) = true → b = true := fun {b} h => by cases b; exact absurd rfl h; rfl
          have flop : ∀ {b : Bool}, (!b) = true → b = false := fun {b} h => by cases b; rfl; cases h
          refine ⟨_, rfl, at_ (j := 0) rfl ⟨_, rfl, a, _, rfl, .inl hs5, rfl, flatStr ks, _, rfl, ?_⟩⟩
          rw [i1]
          refine ite2 (fun k1 => ?_) (fun k1 => ?_)
          · have k1 := flop k1
            exact iteT ⟨_, rfl, (by show 2 ≤ sizeLine; decide), fin (by rw [k1, Bool.and_false, Bool.false_and])⟩
          · have k1 := flip k1
            refine ⟨_, rfl, at_ (j := 1) rfl ⟨_, rfl, a, _, rfl, .inl hs5, rfl, flatStr ks, _, rfl, ?_⟩⟩
            rw [i2]
            refine ite2 (fun k2 => ?_) (fun k2 => ?_)
            · have k2 := flop k2
              exact iteT ⟨_, rfl, (by show 2 ≤ sizeLine; decide), fin (by rw [k2, Bool.and_false])⟩
            · have k2 := flip k2
              refine ⟨_, rfl, at_ (j := 0) rfl ⟨_, rfl, at_ (j := 1) rfl ⟨rfl, _, rfl, ?_⟩⟩⟩
              refine ite2 (fun k3 => ?_) (fun k3 => ?_)
              · have k3 : e.2.1 = e.2.2 := V.str.inj (of_decide_eq_true k3)
                exact ⟨_, rfl, (by show 2 ≤ sizeLine; decide), fin (by rw [decide_eq_false (fun z => z k3), Bool.false_and, Bool.false_and])⟩
              · have k3 : e.2.1 ≠ e.2.2 := fun z => k3 (decide_eq_true (congrArg V.str z))
                refine ⟨_, _, _, rfl, s5, fun j hj => ?_⟩
                rcases Nat.lt_succ_iff_lt_or_eq.mp hj with hj | rfl
                · exact okp j hj
                · rw [bad, decide_eq_true k3, k1, k2]
                  rfl
        · rintro σ H4 ⟨x1, x2, x3, rfl, s4, okp⟩
          rw [List.length_map] at okp
          refine q0 ?_ H4 s4
          rw [due2, pairsBad_none (by rw [List.length_map]; exact okp)]
          rfl
    · have e : (!decide ((ks.length : Int) < 13)) = true := by rw [decide_eq_false (by omega)]; rfl
      show if (!decide ((ks.length : Int) < 13)) = true then _ else _
      rw [e]
      exact iteT ⟨_, _, rfl, rfl, (by show 2 ≤ sizeLine; decide), bad0 (by omega)⟩
  · have g1 : ¬ (1 ≤ ks.length) := fun z => c1 (decide_eq_true (by omega))
    exact ⟨_, rfl, iteT ⟨_, _, rfl, rfl, (by show 2 ≤ sizeLine; decide), bad0 (fun z => g1 z.1)⟩⟩
end
end L2.Und
end

section
set_option Elab.async false
set_option linter.all false
set_option maxRecDepth 100000
set_option maxHeartbeats 4000000
namespace L2.Und
open PySem PySem.Spec PyProof.Rows _root_.Und
open PySem.W (findIn keepIn typeIn subIn)
/-! ### try whose clauses, some with a name, some without, catch whatever the body lets out -/
/-- a clause: what it names, where its name lives, what its suite does -/
structure Clz where
  ty : Value
  at_ : Option Nat
  act : Addr → Value → Option Addr → TS
def gone (j : Option Nat) (σ : St) : St := j.elim σ fun i => σ.set i none
def held (j : Option Nat) (a : Addr) (σ : St) : St := j.elim σ fun i => σ.set i (some (.ref a))
def Ends.via (D : Ends) (f : St → St) : Ends := ⟨fun σ => D.nx (f σ), D.rt, fun σ => D.bk (f σ), fun σ => D.ct (f σ)⟩
/-- the first clause that matches acts; some clause matches -/
def wClz (K : PySem.W.Frag) (D : Ends) : List Clz → WX
  | [] => fun _ _ _ _ => False
  | z :: r => fun cls d σ H => ∃ b, PySem.W.exmOne K cls z.ty = some b ∧ if b then ∀ a, H a = none → z.act a cls d (Ends.via D (gone z.at_)) (held z.at_ a σ) H else wClz K D r cls d σ H
/-- a suite, whatever error it stands for -/
def SuiteOk (X : Cx) (ss : List Stmt) (act : Addr → Value → Option Addr → TS) : Prop :=
  ∀ (a : Addr) (oe : Obj) (cls : Value) (d : Option Addr) (pn : List (Addr × Obj)), Zc cls d oe → (∃ vs, oe.data = .fields vs) → PSs (X.suite a ((a, oe) :: pn)) ss (act a cls d)
/-- a body, whatever is wished of what it lets out -/
def BodyOk (X : Cx) (ss : List Stmt) (tb : WX → TS) : Prop := ∀ (W : WX) (qs : List (Addr × Obj)) (ex : Value → Shared → Prop), Takes (X.tr qs ex) W → PassesOwn (model X.prog X.w) X.A X.env ex → PSs (X.tr qs ex) ss (tb W)
inductive ClzOk (X : Cx) : List ExceptHandler → List Clz → Prop
  | rest {hds : List ExceptHandler} : ClzOk X hds []
  | bare {x : Str} {c : Value} {act : Addr → Value → Option Addr → TS} {st : Stmt} {ss : List Stmt} {p q : Pos} {hds : List ExceptHandler} {l : List Clz} (nm : Names X x c) (su : SuiteOk X (st :: ss) act) (r : ClzOk X hds l) :
      ClzOk X (.ExceptHandler (some (.Name x p)) none (st :: ss) q :: hds) (⟨c, none, act⟩ :: l)
  | named {x n : Str} {i : Nat} {c : Value} {act : Addr → Value → Option Addr → TS} {st : Stmt} {ss : List Stmt} {p q : Pos} {hds : List ExceptHandler} {l : List Clz} (nd : X.N.Nodup) (hi : X.N[i]? = some n) (hl : X.env.kindOf n = some .local) (nm : Names X x c)
      (su : SuiteOk X (st :: ss) act) (r : ClzOk X hds l) : ClzOk X (.ExceptHandler (some (.Name x p)) (some n) (st :: ss) q :: hds) (⟨c, some i, act⟩ :: l)
/-- an error that has come to the try: w0 is the state without it -/
structure Come (X : Cx) (ps : List (Addr × Obj)) (σ : St) (H : Hp) (a : Addr) (cls : Value) (d : Option Addr) (B : Heap) (w0 w1 : Shared) : Prop where
  inv : Inv X ps σ H w0
  keeps : ∀ b o, w0.heap.get? b = some o → b ∉ frs X.stack → B.get? b = some o
  upto : w0.heap.UpToSlots w1.heap
  air : HandSPX.FlyingZ B (X.env :: X.outer) a (Zc cls d) w1.heap
  new : H a = none
  os : w1.os = w0.os
  bare : AllBare w1.gens
section
variable {X : Cx} {ps : List (Addr × Obj)} {σ : St} {H : Hp} {a : Addr} {cls : Value} {d : Option Addr} {B : Heap} {w0 w1 : Shared}
theorem Come.here (C : Come X ps σ H a cls d B w0 w1) : Inv X ps σ H w1 := C.inv.landed C.keeps C.air.1 C.upto C.os C.bare
theorem Come.moved {h : Heap} (C : Come X ps σ H a cls d B w0 w1) (f : HandSPX.FlyingZ B (X.env :: X.outer) a (Zc cls d) h) (u : w1.heap.UpToSlots h) : Come X ps σ H a cls d B w0 { w1 with heap := h } :=
  ⟨C.inv, C.keeps, C.upto.trans u, f, C.new, C.os, C.bare⟩
/-- in the suite's own context -/
theorem Come.inside (C : Come X ps σ H a cls d B w0 w1) (hf : X.env.frame = some X.env.locals) :
    ∃ oe, w1.heap.get? a = some oe ∧ Zc cls d oe ∧ (∃ vs, oe.data = .fields vs) ∧ Inv (X.suite a ((a, oe) :: (X.pn ++ ps))) [] σ H w1 := by
  obtain ⟨oe, vs, he, hz, hd⟩ := C.air.there
  have out : a ∉ frs (X.env :: X.outer) := fun m => by
    obtain ⟨_, ob, eb, nb⟩ := C.air.2.2.1.mem m
    rw [he] at eb
    exact nb vs (Option.some.inj eb ▸ hd)
  refine ⟨oe, he, hz, ⟨vs, hd⟩, C.here.suite he hd C.new (fun e => out ?_) fun m => out ?_⟩
  · rw [e]
    exact List.mem_filterMap.mpr ⟨X.env, by simp, hf⟩
  · obtain ⟨v, hv, e⟩ := List.mem_filterMap.mp m
    exact List.mem_filterMap.mpr ⟨v, by simp [hv], e⟩
/-- the clause's test -/
theorem Come.test (C : Come X ps σ H a cls d B w0 w1) (hf : X.env.frame = some X.env.locals) {x : Str} {c : Value} {p : Pos} {b : Bool} {R : Bool → Shared → Prop} {E F : Value → Shared → Prop} (nm : Names X x c) (e : PySem.W.exmOne X.K cls c = some b) (q : R b w1) :
    wpAny (model X.prog X.w) (X.A.mark (some (.ref a))) (eval (.Name x p) X.env) (fun v s => wpAny (model X.prog X.w) (X.A.mark (some (.ref a))) (excMatches (.ref a) v) R E s) F w1 := by
  obtain ⟨oe, he, hz, _, S⟩ := C.inside hf
  have looks : PySem.W.Looks (model X.prog X.w) w1.heap (typeOf (.ref a)) cls := fun A Q E s k z => wpAny_typeOf_ref (k a oe he) (by rw [hz.1]; exact z)
  have m := (PySem.W.exm_one (M := model X.prog X.w) C.here.kIn looks e).here (A := X.A.mark (some (.ref a))) (E := E) q
  rcases nm with ⟨g, nd, k | ⟨k, v, nn⟩⟩
  · exact ld_glob S g k m nd
  · exact ld_blt S g k v m nn nd
end
section
variable {X : Cx} {ps : List (Addr × Obj)} {D : Ends}
/-- what a suite leaves, outside of it -/
theorem SP.outOf (ok : X.Ok) {a : Addr} {oe : Obj} {pn : List (Addr × Obj)} {D' : Ends} {f : Flow} {s : Shared} (z : SP (X.suite a ((a, oe) :: (X.pn ++ ps))) pn D' f s) : SP X ps D' f s := by
  cases f <;> simp only [SP] at z ⊢
  case next => exact z.elim fun σ z => z.elim fun H z => ⟨σ, H, z.1.unsuite ok, z.2⟩
  case brk => exact z.elim fun σ z => z.elim fun H z => ⟨σ, H, z.1.unsuite ok, z.2⟩
  case cont => exact z.elim fun σ z => z.elim fun H z => ⟨σ, H, z.1.unsuite ok, z.2⟩
  case ret => exact z.elim fun v z => z.elim fun σ z => z.elim fun H z => ⟨v, σ, H, z.1.unsuite ok, z.2⟩
/-- the clause's name goes, whatever way the suite ended -/
theorem SP.drop {M : Model} {A : Around} {E : Value → Shared → Prop} {i : Nat} {n : Str} {pos : Pos} (nd : X.N.Nodup) (hi : X.N[i]? = some n) (hl : X.env.kindOf n = some .local) {f : Flow} {s : Shared} (z : SP X ps (Ends.via D (gone (some i))) f s) :
    wpAny M A (do bindName X.env n .none; unbindBehindTheSuite X.env n pos) (fun _ s' => SP X ps D f s') E s := by
  cases f <;> simp only [SP] at z ⊢
  case next => exact z.elim fun σ z => z.elim fun H z => gone_ok z.1 nd hi hl fun s' J => ⟨_, H, J, z.2⟩
  case brk => exact z.elim fun σ z => z.elim fun H z => gone_ok z.1 nd hi hl fun s' J => ⟨_, H, J, z.2⟩
  case cont => exact z.elim fun σ z => z.elim fun H z => gone_ok z.1 nd hi hl fun s' J => ⟨_, H, J, z.2⟩
  case ret => exact z.elim fun v z => z.elim fun σ z => z.elim fun H z => gone_ok z.1 nd hi hl fun s' J => ⟨v, _, H, J, z.2⟩
theorem clauses (hf : X.env.frame = some X.env.locals) {a : Addr} {cls : Value} {d : Option Addr} {B : Heap} {w0 : Shared} {σ : St} {H : Hp} {hds : List ExceptHandler} {l : List Clz} (k : ClzOk X hds l) :
    ∀ {w1 : Shared}, Come X ps σ H a cls d B w0 w1 → wClz X.K D l cls d σ H → wpAny (model X.prog X.w) X.A (handleBy (.ref a) X.env hds) (SP X ps D) X.xe w1 := by
  induction k with
  | rest => exact fun _ z => z.elim
  | bare nm su _ ih =>
    rintro w1 C ⟨b, e, z⟩
    refine wpAny_handleBy_cons (codeAny_handlers_test (C.test hf nm e ?_)) (fun q => nomatch q)
    cases b
    · exact ih C z
    refine codeAny_handlers_suite (HandSPX.lands_againZ C.air fun h f u => ?_)
    obtain ⟨oe, _, hz, hd, S⟩ := (C.moved f u).inside hf
    exact wpAny_mono ((su a oe cls d (X.pn ++ ps) hz hd).run [] _ _ _ _ S (z a C.new)) (fun g s y => SP.outOf C.inv.ok y) fun _ _ y => y.elim
  | named nd hi hl nm su _ ih =>
    rintro w1 C ⟨b, e, z⟩
    refine wpAny_handleBy_cons (codeAny_handlers_test (C.test hf nm e ?_)) (fun q => nomatch q)
    cases b
    · exact ih C z
    refine codeAny_handlers_suite_as (HandSPX.lands_againZ C.air fun h f u => ?_)
    obtain ⟨oe, _, hz, hd, S⟩ := (C.moved f u).inside hf
    refine store_ok (X := X.suite a ((a, oe) :: (X.pn ++ ps))) (v := .ref a) S nd hi (Or.inl hl) rfl (fun s S' => ?_) (Or.inr hl)
    exact wpAny_mono ((su a oe cls d (X.pn ++ ps) hz hd).run [] _ _ _ _ S' (z a C.new)) (fun g s y => SP.drop nd hi hl (SP.outOf C.inv.ok y)) fun _ _ y => y.elim
end
/-- what comes of an error at the clauses -/
abbrev asked (X : Cx) (hds : List ExceptHandler) (Q : Flow → Shared → Prop) (e : Value) (s : Shared) : Prop :=
  wpAny (model X.prog X.w) X.A (noteFrame e X.env) (fun _ s => wpAny (model X.prog X.w) X.A (setFlight e none) (fun _ s => wpAny (model X.prog X.w) X.A (handleBy e X.env hds) Q X.xe s) X.xe s) X.xe s
/-- the try's rule: the body is told what the clauses wish -/
theorem psTry {X : Cx} {body : List Stmt} {hd : ExceptHandler} {hds : List ExceptHandler} {l : List Clz} {pos : Pos} {tb : WX → TS} {W : Ends → WX} (hs : X.stack = X.env :: X.outer) (hf : X.env.frame = some X.env.locals)
    (hb : BodyOk X body tb)
    (k : ClzOk X (hd :: hds) l) (le : ∀ D cls d σ H, W D cls d σ H → wClz X.K D l cls d σ H) : PS X (.Try body (hd :: hds) [] [] pos) (fun D σ H => tb (W D) D σ H) := by
  constructor
  intro ps s σ H D I h
  apply wpAny_Try_except
  have tk : Takes (X.tr (X.pn ++ ps) (asked X (hd :: hds) (SP X ps D))) (W D) := by
    intro u s' y
    obtain ⟨a, B, w0, _, σ', H', cls, d, rfl, J, keeps, upto, sky, new, os, bare, w⟩ := y
    have J := J.ofTry I.ok
    have sky : Sky B X.stack a (Zc cls d) X.env.locals s'.heap := sky
    rw [hs] at sky
    exact Sky.land Zc.steady (I.ok.frames.trans (congrArg some hs)) hf sky fun h3 f3 u3 => clauses (D := D) hf k (w1 := { s' with heap := h3 }) ⟨J, keeps, upto.trans u3, f3, new, os, bare⟩ (le D cls d σ' H' w)
  refine wpAny_mono ((hb (W D) _ _ tk PassesOwn.looking).run [] s σ H D (I.toTry _) h) (fun f s1 z => ?_) fun _ _ z => z
  cases f <;> simp only [SP] at z ⊢
  case next => exact z.elim fun σ z => z.elim fun H z => wpAny_execs_nil ⟨σ, H, z.1.ofTry I.ok, z.2⟩
  case brk => exact z.elim fun σ z => z.elim fun H z => ⟨σ, H, z.1.ofTry I.ok, z.2⟩
  case cont => exact z.elim fun σ z => z.elim fun H z => ⟨σ, H, z.1.ofTry I.ok, z.2⟩
  case ret => exact z.elim fun v z => z.elim fun σ z => z.elim fun H z => ⟨v, σ, H, z.1.ofTry I.ok, z.2⟩
/-- .. whose first clause has a name and catches all -/
def wFirst (K : PySem.W.Frag) (c : Value) (i : Nat) (ts : Addr → Value → Option Addr → TS) (D : Ends) : WX := fun cls d σ H =>
  PySem.W.exmOne K cls c = some true ∧ ∀ a, H a = none → ts a cls d (Ends.via D (gone (some i))) (σ.set i (some (.ref a))) H
theorem psTryFirst {X : Cx} {x n : Str} {c : Value} {i : Nat} {body suite : List Stmt} {b₀ : Stmt} {np pos pos' : Pos} {hds : List ExceptHandler} {tb : WX → TS} {ts : Addr → Value → Option Addr → TS} (hs : X.stack = X.env :: X.outer) (hf : X.env.frame = some X.env.locals)
    (nd : X.N.Nodup) (hi : X.N[i]? = some n) (hl : X.env.kindOf n = some .local) (nm : Names X x c) (hb : BodyOk X body tb)
    (su : SuiteOk X (b₀ :: suite) ts) : PS X (.Try body (.ExceptHandler (some (.Name x np)) (some n) (b₀ :: suite) pos' :: hds) [] [] pos) (fun D σ H => tb (wFirst X.K c i ts D) D σ H) :=
  psTry hs hf hb (.named nd hi hl nm su .rest) fun _ _ _ _ _ z => ⟨true, z.1, z.2⟩
end L2.Und
end

section
set_option Elab.async false
set_option linter.all false
set_option maxRecDepth 100000
set_option maxHeartbeats 4000000
namespace L2.Und
open PySem PySem.Spec PyProof.Rows _root_.Und
/-! ### isinstance of a caught error that has its own dict -/
theorem callIsD {X : Cx} {a D : Addr} {oe : Obj} {cls : Value} {d : Option Addr} {pn : List (Addr × Obj)} (C : ExcC X.K D) (hz : Zc cls d oe) (hf : ∃ vs, oe.data = .fields vs) :
    CallR (X.suite a ((a, oe) :: pn)) (.builtin "isinstance") (fun xs H Q => ∃ (dd : Addr) (fs : List (Str × V)), cls = .ref D ∧ d = some dd ∧ H dd = some (.xd fs) ∧ rIsE X.K D a xs H Q) := by
  intro pins s σ H xs us Q I r h
  obtain ⟨dd, fs, rfl, rfl, hx, c, cv, b, rfl, hcv, e, q⟩ := h
  obtain ⟨u1, u2, rfl, r1, r2⟩ : ∃ u1 u2, us = [u1, u2] ∧ RelV (.ref a) u1 ∧ RelV c u2 := by
    match r with
    | .cons x (.cons y .nil) => exact ⟨_, _, rfl, x, y⟩
  obtain rfl : u1 = Value.ref a := r1
  obtain rfl := hcv _ r2
  have there := (I.pin (a, oe) (List.mem_append_left _ List.mem_cons_self)).1
  obtain ⟨mA, hns, _⟩ := (show ObjOk X.prog X.w H s.heap dd (.xd fs) from I.hok dd _ hx)
  obtain ⟨o2, ho, _⟩ := lookIn_ns hns
  have J : PySem.W.InstAt s.heap a oe D (some o2) := ⟨there, hz.1, by obtain ⟨vs, hv⟩ := hf; unfold PySem.W.notCls; rw [hv] <;> rfl, by rw [hz.2]; exact ho⟩
  have cl : (PySem.W.clsIn X.K D).isSome = true := by
    obtain ⟨cd, hc, _⟩ := PySem.W.any_some C.hd
    rw [hc]
    rfl
  exact PySem.W.kia_one (PySem.W.kitx_exc cl C.hg C.hk C.hs C.ha C.hn C.ht C.hm) I.kIn J e (fun z => nomatch z) fun tk => ⟨.bl b, H, I.kept (t' := tk) fun _ _ z => z, rfl, q⟩
end L2.Und
end

section
set_option Elab.async false
set_option linter.all false
set_option maxRecDepth 100000
set_option maxHeartbeats 4000000
namespace L2.Und
open PySem PySem.Spec PyProof.Rows _root_.Und
open PySem.W (findIn keepIn typeIn subIn)
/-! ### an instance made, by an __init__ that may raise, what it raises wished for at the slots -/
def tMakeS (C : Addr) (sp : Sp) (dvs : List V) (E : St → XK) (t : TA) : TE := fun σ H Q => t σ H fun vs H1 => ∀ x dx, H1 x = none → H1 dx = none → dx ≠ x →
  sp (.ref x :: (vs ++ dvs)) (upd (upd H1 dx (.own x)) x (.ins C dx [])) (fun v H2 => v = .non ∧ Q (.ref x) H2) (E σ)
section
variable {X : Cx} {CX : CXT} {k : Nat} {f C : Addr} {fd : FuncData} {ps : List Str} {sp : Sp} {dvs : List V} {ds : List Value} {E : St → XK} {x : Str} {p pos : Pos} {e : Expr} {es : List Expr} {t : TA}
theorem peMakeS (M : Mk X.K C f) (F : FnOk X.prog X.w X.K X.mg X.base CX k f fd ps sp) (hr : Room (k + 1) X.A) (hg : Gl X x) (hm : X.mg x = some (.ref C)) (hb : Binds X.K fd ps ds) (hd : Vals dvs ds) (hx : ∀ σ, PassesAt CX X σ (E σ))
    (ha : PA X (e :: es) t) (hdb : (x == ("__debug__" : Str)) = false := by decide) (he : starEach (e :: es) X.env = (false, eval e X.env) :: starEach es X.env := by rfl) (hpl : (backTo pos (starEach es X.env)).any (·.1) = false := by rfl) :
    PE X (.Call (.Name x p) (e :: es) [] pos) (tMakeS C sp dvs E t) := by
  refine ⟨fun pins s σ H Q I h => ?_⟩
  refine wpAny_Call_Name_kw (ld_glob I hg hm ?_ hdb)
  refine PySem.W.callWith_K (h₀ := X.base) I.ok.mod.kin M.kp (thn (ha.run pos pins s σ H _ I h) fun us s1 ⟨vs, H1, I1, r, q⟩ => ⟨I1.kIn, ?_⟩) he hpl
  -- the new object and its dict
  obtain ⟨n, en⟩ : ∃ n, n = s1.heap.objs.size := ⟨_, rfl⟩
  have sp1 := q (n + 1) n (I1.hok.fresh (by rw [en]; exact Nat.le_succ _)) (I1.hok.fresh (by rw [en]; exact Nat.le_refl _)) (Nat.ne_of_lt (Nat.lt_succ_self _))
  have I2 := Inv.made (C := C) I1
  rw [← en] at I2
  have r2 : Vals (V.ref (n + 1) :: (vs ++ dvs)) (Value.ref (n + 1) :: (us ++ ds)) := .cons rfl (r.append hd)
  have hl : (Value.ref (n + 1) :: us ++ ds).length = ps.length := r2.length.symm.trans (F.len _ _ _ _ sp1)
  refine wpAny_call (make_map (f := f) I1.kIn M.makes M.init (beq_iff_eq.mp M.fn) ?_)
  rw [← en]
  refine codeAny_mono (F.run _ X.stack _ _ ⟨Value.ref (n + 1) :: us, []⟩ (Value.ref (n + 1) :: (us ++ ds)) _ _ (E σ) (hr.make C us []) (I2.env0.make C us []) (hb _ (Value.ref (n + 1) :: us) I2.kIn hl) r2 sp1) fun res s' z => ?_
  cases res with
  | error er => exact hx σ pins _ _ er s' I2 z
  | ok fl =>
    cases fl with
    | ret u =>
      obtain ⟨v, H', I3, rv, ev, q3⟩ := I2.after z
      subst ev
      exact ⟨rv, ⟨V.ref (n + 1), H', I3, rfl, q3⟩⟩
    | next => exact z.elim
    | brk => exact z.elim
    | cont => exact z.elim
end
end L2.Und
end

section
set_option Elab.async false
set_option linter.all false
set_option maxRecDepth 100000
set_option maxHeartbeats 4000000
namespace L2.Und
open PySem PySem.Spec PyProof.Rows _root_.Und
open L2.KS SX
open PySem.W (findIn keepIn typeIn subIn dataLe dataLt AllAlike Sortable)
/-! ### what the program tells -/
abbrev sTold : Stmt := topS 27
theorem scTold : FnScope ["_law_kinds", "_law_pairs_here", "_law_found", "e"] ["_law_kinds", "_law_pairs_here"] (defScope sTold) := ⟨rfl, rfl, rfl, by decide +kernel, rfl, by decide +kernel, by decide +kernel⟩
def spTold (K : PySem.W.Frag) : Sp := fun vs H Q _ => ∃ (a b : Addr) (ks : List Str) (ps : List (Addr × (Str × Str))), vs = [.ref a, .ref b] ∧ SqA K H a (ks.map V.str) ∧ SqA K H b (ps.map fun e => V.ref e.1) ∧
  (∀ e ∈ ps, SqT K H e.1 [.str e.2.1, .str e.2.2]) ∧ ks.length ≤ 1000 ∧ (∀ k ∈ ks, k.length ≤ 1000) ∧ ps.length ≤ 75 ∧
  (dueOf ks (ps.map fun e => [e.2.1, e.2.2]) = none → ∀ H', Same H H' → Q .non H') ∧
  ∀ t i, dueOf ks (ps.map fun e => [e.2.1, e.2.2]) = some (t, i) → ∀ (p : Addr) (H' : Hp), Same H H' → H p = none → H' p = some (.tup [.str t, .int i]) → Q (.ref p) H'
theorem twos_self : ∀ l : List (Str × Str), twos (l.map fun p => [p.1, p.2]) = l
  | [] => rfl
  | p :: l => by
    show p :: twos (l.map fun p => [p.1, p.2]) = p :: l
    rw [twos_self l]
section
variable {P : Program} {w : World} {K : PySem.W.Frag} {mg : Str → Option Value} {base : Heap}
theorem okTold {f fI C CE CT : Addr} {fd fdI : FuncData} (F : Fun K "_law_told" "_law_told" sTold f fd)
    (M : Mk K C fI) (GI : FnOk P w K mg base (L2.CX P w) 4 fI fdI ["self", "kinds", "pairs"] (spTabIni K C CE)) (mC : mg "Table" = some (.ref C)) (bI : Binds K fdI ["self", "kinds", "pairs"] [])
    (mE : mg "InvalidTable" = some (.ref CE)) (eE : PySem.W.exmOne K (.ref CE) (.ref CE) = some true) (xE : ExcC K CE) (xf : XfC K CE) (no1 : findIn K (.ref CE) "word" = some none) (no2 : findIn K (.ref CE) "at" = some none)
    (mT : mg "InvalidText" = some (.ref CT)) (kT : PySem.W.kitOne K (.ref CE) (.ref CT) = some false) (mI : mg "isinstance" = none) : FnOk P w K mg base CX0 6 f fd ["_law_kinds", "_law_pairs_here"] (spTold K) := by
  refine F.ok scTold (fun vs H Q E h => ?_) (fun cdv A outer s H vs Q E hr h => ?_)
  · obtain ⟨a, b, ks, ps, rfl, _⟩ := h
    rfl
  have hr5 : Room 5 (A.deeper (envOfC "_law_told" (defScope sTold) s.heap.objs.size f cdv)) := hr.mono (by decide)
  have bIs : bootBuiltins ("isinstance" : Str) = some (.builtin "isinstance") := by decide +kernel
  refine ⟨_, pss_cons (ps_set (i := 2) scTold.nd rfl (Or.inl rfl) pe_non)
    (pss_cons (psTryFirst (i := 3) (c := .ref CE) (tb := fun W => tDrop (tMakeS C (spTabIni K C CE) [] (WE W) (tCons (tVar 0) (tCons (tVar 1) tNil))))
        (ts := fun a cls d => tAsg (tIf (tB (tCB (fun xs H Q => ∃ (dd : Addr) (fs : List (Str × V)), cls = .ref CE ∧ d = some dd ∧ H dd = some (.xd fs) ∧ rIsE K CE a xs H Q) (tCons (tVar 3) (tCons (tC (.ref CT)) tNil)))) (tTup (tCons (tC (.str "other")) tNil)) (tTup (tCons (tXf a cls d CE "word" (tVar 3)) (tCons (tXf a cls d CE "at" (tVar 3)) tNil)))) (gName 2))
        rfl rfl scTold.nd rfl rfl ⟨rfl, by decide, Or.inl mE⟩
        (fun W pn xe tk _ => pss_one (ps_expr (peMakeS M GI hr5 rfl mC bI .nil (fun σ => passAt tk σ) (by exact (pa_cons (pv 0) (pa_cons (pv 1) pa_nil))))))
        (fun a oe cls d pn hz hf => pss_one (ps_set (i := 2) scTold.nd rfl (Or.inl rfl) (by exact (pe_ifExp (pt_val (pe_callB (callIsD xE hz hf) rfl mI bIs (pa_cons (pv 3) (pa_cons (pe_glob (v := .ref CT) rfl mT rfl) pa_nil)))) (pe_tup (pa_cons pe_str pa_nil)) (pe_tup (pa_cons (pe_xf xf no1 hz hf (pv 3)) (pa_cons (pe_xf xf no2 hz hf (pv 3)) pa_nil))))))))
    (pss_one (ps_ret (pv 2)))), ?_⟩
  obtain ⟨a, b, ks, ps, rfl, hs, hb, hps, hl, hkl, hn, q0, qE⟩ := h
  refine ⟨_, rfl, _, rfl, fun x dx nx nd ne => ?_⟩
  have s1 : Same H (upd (upd H dx (.own x)) x (.ins C dx [])) := (sameNew nd).trans (sameNew (by rw [upd_ne ne.symm]; exact nx))
  have e2 : (ps.map fun e => (e.1, [e.2.1, e.2.2])).map (·.2) = ps.map fun e => [e.2.1, e.2.2] := by rw [List.map_map]; rfl
  have e3 : twos (ps.map fun e => [e.2.1, e.2.2]) = ps.map (·.2) := by
    have z := twos_self (ps.map (·.2))
    rw [List.map_map] at z
    exact z
  have due1 : ∀ {t i}, kindsBad ks = some (t, i) → dueOf ks (ps.map fun e => [e.2.1, e.2.2]) = some (t, i) := fun z => by
    unfold dueOf
    rw [z]
  have due2 : kindsBad ks = none → dueOf ks (ps.map fun e => [e.2.1, e.2.2]) = (pairsBad ks (ps.map fun e => [e.2.1, e.2.2])).map fun i => (("pair" : Str), (i : Int)) := fun z => by
    unfold dueOf
    rw [z]
  refine ⟨x, a, b, dx, ks, ps.map (fun e => (e.1, [e.2.1, e.2.2])), ps.map (fun e => kOf (asc e.2)), rfl, upd_same, SqA.same hs s1, ?_, ?_, hl, hkl, by rw [List.length_map]; exact hn, ?_, ?_, ?_, ?_⟩
  · rw [List.map_map]
    exact SqA.same hb s1
  · intro e he
    obtain ⟨e0, h0, rfl⟩ := List.mem_map.mp he
    exact .inr (Same.tup s1 (hps e0 h0))
  · rw [e2, e3]
    intro p hp
    obtain ⟨e0, h0, rfl⟩ := List.mem_map.mp hp
    exact List.mem_map.mpr ⟨e0, h0, rfl⟩
  · rw [e2]
    intro kn pn H2 tk tp fr st L SL keep _
    refine ⟨rfl, _, rfl, q0 (by rw [due2 kn, pn]; rfl) H2 fun c u e => keep c u (ne_of_none e nx) (s1 c u e)⟩
  · intro t i bad d H2 n2 s2 e2
    have s12 := s1.trans s2
    refine ⟨eE, fun z nz => ?_⟩
    refine ⟨_, rfl, d, _, rfl, rfl, e2, .ref CT, .ref CT, false, rfl, fun u r => r, kT, _, rfl, ?_⟩
    refine iteF ⟨_, rfl, rfl, rfl, d, _, .str t, rfl, e2, rfl, _, rfl, rfl, rfl, d, _, .int i, rfl, e2, rfl, (by show 2 ≤ sizeLine; decide), fun p hp => ?_⟩
    exact ⟨_, rfl, qE t i (due1 bad) p _ (s12.trans (sameNew hp)) (s12.free hp) upd_same⟩
  · rw [e2]
    intro kn i bad d H2 n2 s2 e2
    have s12 := s1.trans s2
    refine ⟨eE, fun z nz => ?_⟩
    refine ⟨_, rfl, d, _, rfl, rfl, e2, .ref CT, .ref CT, false, rfl, fun u r => r, kT, _, rfl, ?_⟩
    refine iteF ⟨_, rfl, rfl, rfl, d, _, .str "pair", rfl, e2, rfl, _, rfl, rfl, rfl, d, _, .int i, rfl, e2, rfl, (by show 2 ≤ sizeLine; decide), fun p hp => ?_⟩
    exact ⟨_, rfl, qE "pair" i (by rw [due2 kn, bad]; rfl) p _ (s12.trans (sameNew hp)) (s12.free hp) upd_same⟩
end
end L2.Und
end

section
set_option Elab.async false
set_option linter.all false
set_option maxRecDepth 100000
set_option maxHeartbeats 4000000
namespace L2.Und
open PySem PySem.Spec PyProof.Rows _root_.Und
open L2.KS SX
open PySem.W (findIn keepIn typeIn subIn dataLe dataLt AllAlike Sortable)
/-! ### kinds and pairs bent -/
abbrev sBent : Stmt := topS 28
abbrev nBent : List Str := ["_law_deal_here", "_law_kinds", "_law_pairs_here", "_law_at", "_law_form", "_law_some", "_law_name", "_law_odd", "_law_spot", "_law_pair", "_law_letter"]
theorem scBent : FnScope nBent ["_law_deal_here", "_law_kinds", "_law_pairs_here"] (defScope sBent) := ⟨rfl, rfl, rfl, by decide +kernel, rfl, by decide +kernel, by decide +kernel⟩
/-- texts of at most l signs, at most n of them -/
structure Txts (ks : List Str) (n l : Nat) : Prop where
  len : ks.length ≤ n
  each : ∀ k ∈ ks, k.length ≤ l ∧ Ascii k
abbrev PA2 := List (Addr × (Str × Str))
structure Prs (K : PySem.W.Frag) (d c : Addr) (H : Hp) (ps : PA2) (m : Nat) : Prop where
  len : ps.length ≤ m
  each : ∀ e ∈ ps, e.1 ≠ d ∧ e.1 ≠ c ∧ H e.1 = some (.tup [.str e.2.1, .str e.2.2])
def spBent (K : PySem.W.Frag) : Sp := fun vs H Q _ => ∃ (d c a b : Addr) (ks : List Str) (ps : PA2) (n l m : Nat), vs = [.ref d, .ref a, .ref b] ∧ Deal H d c ∧ a ≠ d ∧ a ≠ c ∧ b ≠ d ∧ b ≠ c ∧ H a = some (.lst (ks.map V.str)) ∧ H b = some (.lst (ps.map fun e => V.ref e.1)) ∧
  Txts ks n l ∧ 12 ≤ n ∧ n ≤ 100 ∧ 7 ≤ l ∧ l ≤ 100 ∧ Prs K d c H ps m ∧ m ≤ 900 ∧
  ∀ (t a' b' : Addr) (ks' : List Str) (ps' : PA2) (H' : Hp), Deal H' d c → Kept d c H H' → H t = none → H' t = some (.tup [.ref a', .ref b']) → a' ≠ d → a' ≠ c → b' ≠ d → b' ≠ c → H' a' = some (.lst (ks'.map V.str)) → H' b' = some (.lst (ps'.map fun e => V.ref e.1)) →
    Txts ks' (n + 1) (l + 1) → Prs K d c H' ps' (m + 1) → Q (.ref t) H'
theorem cutTakeV (xs : List V) (i : Nat) : cutV xs none (some (i : Int)) = xs.take i := by
  unfold cutV
  rw [HT.sIx_none, HT.sIx_nat, List.drop_zero, Nat.sub_zero]
  by_cases h : i ≤ xs.length
  · rw [Nat.min_eq_left h]
  · rw [Nat.min_eq_right (by omega), List.take_length, List.take_of_length_le (by omega)]
theorem cutDropV (xs : List V) (i : Nat) : cutV xs (some (i : Int)) none = xs.drop i := by
  unfold cutV
  rw [HT.sIx_none, HT.sIx_nat]
  by_cases h : i ≤ xs.length
  · rw [Nat.min_eq_left h, List.take_of_length_le (by rw [List.length_drop]; omega)]
  · rw [Nat.min_eq_right (by omega), List.drop_length, List.take_nil, List.drop_eq_nil_of_le (by omega)]
section
variable {P : Program} {w : World} {K : PySem.W.Frag} {mg : Str → Option Value} {base : Heap}
theorem okBent {f fD : Addr} {fd fdD : FuncData} (F : Fun K "_law_bent" "_law_bent" sBent f fd)
    (GD : FnOk P w K mg base CX0 1 fD fdD ["_law_deal_here", "_law_many"] spDraw) (mD : mg "_law_draw" = some (.ref fD)) (kD : PySem.W.keepIn K (.ref fD) = true) (bD : Binds K fdD ["_law_deal_here", "_law_many"] [])
    (mL : mg "len" = none) : FnOk P w K mg base CX0 2 f fd ["_law_deal_here", "_law_kinds", "_law_pairs_here"] (spBent K) := by
  refine F.ok scBent (fun vs H Q E h => ?_) (fun cdv A outer s H vs Q E hr h => ?_)
  · obtain ⟨d, c, a, b, ks, ps, n, l, m, rfl, _⟩ := h
    rfl
  refine ⟨_, pss_cons (ps_par3 (i := 3) (j := 4) (l := 5) rfl scBent.nd rfl rfl rfl (by decide) (by decide) (by decide) rfl rfl rfl (pa_cons (pe_call GD hr rfl mD kD bD .nil pass0 (pa_cons (pv 0) (pa_cons (pe_op op_add (pe_callB call_len_seq rfl mL PySem.boot_len (pa_cons (pv 1) pa_nil)) pe_int) pa_nil)))
        (pa_cons (pe_call GD hr rfl mD kD bD .nil pass0 (pa_cons (pv 0) (pa_cons pe_int pa_nil))) (pa_cons (pe_op op_cat (pv 1) (pe_lst (pa_cons pe_str pa_nil))) pa_nil))) rfl)
    (pss_cons (ps_set (i := 6) scBent.nd rfl (Or.inl rfl) (pe_ix ix_list (pv 5) (pe_call GD hr rfl mD kD bD .nil pass0 (pa_cons (pv 0) (pa_cons (pe_callB call_len_seq rfl mL PySem.boot_len (pa_cons (pv 5) pa_nil)) pa_nil))) (fun _ _ => rfl)))
    (pss_cons (ps_set (i := 7) scBent.nd rfl (Or.inl rfl) (pe_lst (pa_cons pe_str (pa_cons pe_str (pa_cons pe_str (pa_cons pe_str (pa_cons pe_str (pa_cons pe_str (pa_cons (pe_op op_add_str (pv 6) pe_str) (pa_cons (pe_op op_add_str pe_str (pv 6)) (pa_cons (pv 6) (pa_cons pe_str (pa_cons pe_str (pa_cons (pe_upper (pv 6)) pa_nil))))))))))))))
    (pss_cons (ps_set (i := 7) scBent.nd rfl (Or.inl rfl) (pe_ix ix_list (pv 7) (pe_call GD hr rfl mD kD bD .nil pass0 (pa_cons (pv 0) (pa_cons pe_int pa_nil))) (fun _ _ => rfl)))
    (pss_cons (ps_if (pt_cmpR op_lt (pv 4) pe_int (nomark _)) (pss_one (ps_ret (pe_tup (pa_cons (pe_op op_cat (pe_op op_cat (pe_slice sl_list (pv 1) po_none (po_some (pv 3))) (pe_lst (pa_cons (pv 7) pa_nil))) (pe_slice sl_list (pv 1) (po_some (pe_op op_add (pv 3) (pe_op op_mod (pv 4) pe_int))) po_none)) (pa_cons (pv 2) pa_nil))))) pss_nil)
    (pss_cons (ps_if (pt_cmpR op_eq (pv 4) pe_int (nomark _)) (pss_one (ps_ret (pe_tup (pa_cons (pe_lst pa_nil) (pa_cons (pv 2) pa_nil))))) pss_nil)
    (pss_cons (ps_if (pt_cmpR op_eq (pv 4) pe_int (nomark _)) (pss_one (ps_ret (pe_tup (pa_cons (pe_slice sl_list (pe_lc (own := [("_law_letter", 10)]) (g := gName 10) (tt := tYes) rfl scBent.nd (pi_str pe_str) (blkOk_by (N := nBent) (sc := defScope sBent) (by decide +kernel))
          (fun _ _ _ _ _ => pg_name (i := 10) scBent.nd rfl (Or.inl rfl)) (fun _ _ _ _ _ => pts_nil) (fun _ _ _ _ _ => pe_op op_add_str (pv 10) pe_str)) po_none (po_some (pe_op op_add pe_int (pe_call GD hr rfl mD kD bD .nil pass0 (pa_cons (pv 0) (pa_cons pe_int pa_nil)))))) (pa_cons (pv 2) pa_nil))))) pss_nil)
    (pss_cons (ps_set (i := 8) scBent.nd rfl (Or.inl rfl) (pe_call GD hr rfl mD kD bD .nil pass0 (pa_cons (pv 0) (pa_cons (pe_op op_add (pe_callB call_len_seq rfl mL PySem.boot_len (pa_cons (pv 2) pa_nil)) pe_int) pa_nil))))
    (pss_cons (ps_set (i := 9) scBent.nd rfl (Or.inl rfl) (pe_ix ix_list (pe_lst (pa_cons (pe_tup (pa_cons (pv 6) (pa_cons (pv 6) pa_nil))) (pa_cons (pe_tup (pa_cons (pv 6) (pa_cons (pv 7) pa_nil))) (pa_cons (pe_tup (pa_cons (pv 7) (pa_cons (pv 6) pa_nil)))
          (pa_cons (pe_tup (pa_cons pe_str (pa_cons (pv 6) pa_nil))) (pa_cons (pe_tup (pa_cons (pv 6) (pa_cons pe_str pa_nil))) pa_nil)))))) (pe_call GD hr rfl mD kD bD .nil pass0 (pa_cons (pv 0) (pa_cons pe_int pa_nil))) (fun _ _ => rfl)))
    (pss_one (ps_ret (pe_tup (pa_cons (pv 1) (pa_cons (pe_op op_cat (pe_op op_cat (pe_slice sl_list (pv 2) po_none (po_some (pv 8))) (pe_lst (pa_cons (pv 9) pa_nil))) (pe_slice sl_list (pv 2) (po_some (pv 8)) po_none)) pa_nil))))))))))))), ?_⟩
  obtain ⟨d, c, a, b, ks, ps, n, l, m, rfl, hD, ad, ac, bd, bc, ha, hb, T1, n12, n100, l7, l100, P1, m9, q⟩ := h
  have kl := T1.len
  refine ⟨_, rfl, _, rfl, a, _, rfl, .inl (SqL.of ha), _, _, rfl, rfl, d, c, _, rfl, hD, by rw [List.length_map]; omega, by rw [List.length_map]; omega, fun at0 H1 z0 z1 hD1 k1 => ?_⟩
  rw [List.length_map] at z1
  obtain ⟨at_, rfl⟩ : ∃ x : Nat, at0 = (x : Int) := ⟨at0.toNat, by omega⟩
  refine ⟨_, rfl, d, c, 9, rfl, hD1, by decide, by decide, fun form0 H2 y0 y9 hD2 k2 => ?_⟩
  obtain ⟨form, rfl⟩ : ∃ x : Nat, form0 = (x : Int) := ⟨form0.toNat, by omega⟩
  have k12 := k1.trans k2
  have ha2 := k12 a _ ad ac ha
  have hb2 := k12 b _ bd bc hb
  refine ⟨_, rfl, (by show 1 ≤ sizeLine; decide), fun p hp => ?_⟩
  have s3 := sameNew (o := .lst [V.str "q"]) hp
  refine ⟨a, p, _, _, rfl, rfl, s3 a _ ha2, upd_same, ?_, fun p4 hp4 => ?_⟩
  · simp only [List.length_append, List.length_map, List.length_cons, List.length_nil]
    exact small1000 (by omega)
  refine ⟨_, _, _, rfl, ?_⟩
  have s34 := s3.trans (sameNew (o := .lst (ks.map V.str ++ [V.str "q"])) hp4)
  have e4 : upd (upd H2 p (.lst [V.str "q"])) p4 (.lst (ks.map V.str ++ [V.str "q"])) p4 = some (.lst ((ks ++ [("q" : Str)]).map V.str)) := by rw [upd_same, List.map_append]; rfl
  have p4d := (hD2.same s3).ned hp4
  have p4c := (hD2.same s3).nec hp4
  have hD4 := hD2.same s34
  have k4 := k12.trans (Kept.of s34)
  generalize upd (upd H2 p (.lst [V.str "q"])) p4 (.lst (ks.map V.str ++ [V.str "q"])) = H4 at e4 hD4 k4
  clear s34 s3
  have q1 : ("q" : Str).length = 1 := by decide +kernel
  have some4 : ∀ k ∈ ks ++ [("q" : Str)], k.length ≤ l ∧ Ascii k := fun k hk => by
    rcases List.mem_append.mp hk with hk | hk
    · exact T1.each k hk
    · rw [List.mem_singleton.mp hk]
      exact ⟨by omega, by unfold Ascii; decide +kernel⟩
  have hlen : ((ks ++ [("q" : Str)]).map V.str).length = ks.length + 1 := by simp
  refine ⟨_, rfl, _, rfl, _, rfl, p4, _, rfl, .inl (SqL.of e4), d, c, _, rfl, hD4, by rw [hlen]; omega, by rw [hlen]; omega, fun nm0 H5 u0 u1 hD5 k5 => ?_⟩
  obtain ⟨nm, rfl⟩ : ∃ x : Nat, nm0 = (x : Int) := ⟨nm0.toNat, by omega⟩
  have nml : nm < (ks ++ [("q" : Str)]).length := by
    rw [List.length_map] at u1
    omega
  obtain ⟨name, hname⟩ : ∃ z, (ks ++ [("q" : Str)])[nm]? = some z := ⟨_, List.getElem?_eq_getElem nml⟩
  obtain ⟨nl, na⟩ := some4 name (List.mem_of_getElem? hname)
  refine ⟨p4, _, (nm : Int), _, rfl, rfl, SqL.of (k5 p4 _ p4d p4c e4), atI_nat (by rw [List.getElem?_map, hname]; rfl), ?_⟩
  have k15 := k4.trans k5
  have up : ∃ up : Str, Txt.upper name = up ∧ up.length ≤ l ∧ Ascii up := by
    refine ⟨_, rfl, ?_⟩
    have e := upper_S (a := name.cps.toList) (List.all_eq_true.mpr fun c hc => decide_eq_true (na c hc))
    rw [S_tl] at e
    rw [e]
    refine ⟨by rw [S_len, List.length_map, Array.length_toList]; exact nl, fun c hc => ?_⟩
    obtain ⟨x, hx, rfl⟩ := List.mem_map.mp (show c ∈ name.cps.toList.map PyProof.Rows.up1 from hc)
    have := na x hx
    unfold PyProof.Rows.up1
    split <;> omega
  obtain ⟨upn, eup, upl, upa⟩ := up
  obtain ⟨O, eO⟩ : ∃ O : List Str, O = [("" : Str), "A", "aB", "abcdefg", "a b", "a1", name ++ (" " : Str), ("\n" : Str) ++ name, name, "a_b", "a.b", upn] := ⟨_, rfl⟩
  have nl24 : name.length ≤ 1000 := by omega
  have b1 : (" " : Str).length = 1 := by decide +kernel
  have b2 : ("\n" : Str).length = 1 := by decide +kernel
  have f1 : name.length + (" " : Str).length ≤ sizeLine := by rw [b1, sizeLine_eq]; omega
  have f2 : ("\n" : Str).length + name.length ≤ sizeLine := by rw [b2, sizeLine_eq]; omega
  refine ⟨_, rfl, _, _, rfl, rfl, f1, _, rfl, _, _, rfl, rfl, f2, _, rfl, _, rfl, ⟨_, rfl⟩, _, rfl, rfl, by omega, (by show 12 ≤ sizeLine; decide), fun p6 hp6 => ?_⟩
  rw [eup]
  have s6 := sameNew (o := .lst (O.map V.str)) hp6
  have p6d := hD5.ned hp6
  have p6c := hD5.nec hp6
  rw [show ([V.str "", V.str "A", V.str "aB", V.str "abcdefg", V.str "a b", V.str "a1", V.str (name ++ (" " : Str)), V.str (("\n" : Str) ++ name), V.str name, V.str "a_b", V.str "a.b", V.str upn] : List V) = O.map V.str from by rw [eO]; rfl]
  have e6 : upd H5 p6 (.lst (O.map V.str)) p6 = some (.lst (O.map V.str)) := upd_same
  have hD6 := hD5.same s6
  have k6 := k15.trans (Kept.of s6)
  generalize upd H5 p6 (.lst (O.map V.str)) = H6 at e6 hD6 k6
  have ol : O.length = 12 := by rw [eO]; rfl
  have okO : ∀ o ∈ O, o.length ≤ l + 1 ∧ Ascii o := by
    have cat : ∀ x y : Str, Ascii x → Ascii y → Ascii (x ++ y) := fun x y hx hy c hc => by
      have hc : c ∈ (x.cps ++ y.cps).toList := hc
      rw [Array.toList_append] at hc
      exact (List.mem_append.mp hc).elim (hx c) (hy c)
    have cl : ∀ x y : Str, (x ++ y).length = x.length + y.length := fun x y => by
      show (x.cps ++ y.cps).size = x.cps.size + y.cps.size
      exact Array.size_append
    intro o ho
    rw [eO] at ho
    have fix : ∀ x ∈ [("" : Str), "A", "aB", "abcdefg", "a b", "a1", "a_b", "a.b", " ", "\n"], x.length ≤ 7 ∧ Ascii x := by unfold Ascii; decide +kernel
    have get : ∀ x ∈ [("" : Str), "A", "aB", "abcdefg", "a b", "a1", "a_b", "a.b", " ", "\n"], x.length ≤ l + 1 ∧ Ascii x := fun x hx => ⟨by have := (fix x hx).1; omega, (fix x hx).2⟩
    simp only [List.mem_cons, List.not_mem_nil, or_false] at ho
    rcases ho with rfl | rfl | rfl | rfl | rfl | rfl | rfl | rfl | rfl | rfl | rfl | rfl
    · exact get _ (by simp)
    · exact get _ (by simp)
    · exact get _ (by simp)
    · exact get _ (by simp)
    · exact get _ (by simp)
    · exact get _ (by simp)
    · exact ⟨by rw [cl, b1]; omega, cat _ _ na (fix _ (by simp)).2⟩
    · exact ⟨by rw [cl, b2]; omega, cat _ _ (fix _ (by simp)).2 na⟩
    · exact ⟨by omega, na⟩
    · exact get _ (by simp)
    · exact get _ (by simp)
    · exact ⟨by omega, upa⟩
  refine ⟨_, rfl, _, rfl, d, c, 12, rfl, hD6, by decide, by decide, fun od0 H7 v0 v1 hD7 k7 => ?_⟩
  obtain ⟨od, rfl⟩ : ∃ x : Nat, od0 = (x : Int) := ⟨od0.toNat, by omega⟩
  obtain ⟨odd, hodd⟩ : ∃ z, O[od]? = some z := ⟨_, List.getElem?_eq_getElem (by omega)⟩
  obtain ⟨oddl, odda⟩ := okO odd (List.mem_of_getElem? hodd)
  refine ⟨p6, _, (od : Int), _, rfl, rfl, SqL.of (k7 p6 _ p6d p6c e6), atI_nat (by rw [List.getElem?_map, hodd]; rfl), ?_⟩
  have k := k6.trans k7
  have ha7 := k a _ ad ac ha
  have hb7 := k b _ bd bc hb
  clear e6 e4 k6 k15 k4 k5 s6
  have oldP : ∀ (H' : Hp), Same H7 H' → Prs K d c H' ps (m + 1) := fun H' s => ⟨by have := P1.len; omega, fun e he => ⟨(P1.each e he).1, (P1.each e he).2.1, s _ _ (k _ _ (P1.each e he).1 (P1.each e he).2.1 (P1.each e he).2.2)⟩⟩
  refine ⟨_, rfl, _, _, rfl, rfl, _, rfl, ?_⟩
  refine ite2 (fun f3 => ?_) (fun f3 => ?_)
  · refine ⟨_, rfl, _, rfl, _, rfl, a, _, rfl, SqL.of ha7, fun x1 h1 => ?_⟩
    rw [cutTakeV, ← List.map_take]
    have t1 := sameNew (o := .lst ((ks.take at_).map V.str)) h1
    refine ⟨_, rfl, (by show 1 ≤ sizeLine; decide), fun x2 h2 => ?_⟩
    have t2 := sameNew (o := .lst [V.str odd]) h2
    refine ⟨x1, x2, _, _, rfl, rfl, t2 x1 _ upd_same, upd_same, ?_, fun x3 h3 => ?_⟩
    · simp only [List.length_map, List.length_take, List.length_cons, List.length_nil]
      exact small1000 (by omega)
    have t3 := sameNew (o := .lst ((ks.take at_).map V.str ++ [V.str odd])) h3
    have ha3 := t3 a _ (t2 a _ (t1 a _ ha7))
    refine ⟨_, rfl, _, rfl, _, rfl, _, _, rfl, rfl, (by show (0 : Int) < 2; decide), _, _, rfl, rfl, _, rfl, a, _, rfl, SqL.of ha3, fun x4 h4 => ?_⟩
    have ei : (at_ : Int) + (form : Int) % 2 = ((at_ + form % 2 : Nat) : Int) := by omega
    rw [ei, cutDropV, ← List.map_drop]
    have t4 := sameNew (o := .lst ((ks.drop (at_ + form % 2)).map V.str)) h4
    refine ⟨x3, x4, _, _, rfl, rfl, t4 x3 _ upd_same, upd_same, ?_, fun x5 h5 => ?_⟩
    · simp only [List.length_append, List.length_map, List.length_take, List.length_drop, List.length_cons, List.length_nil]
      exact Nat.le_of_lt (small1000 (by omega))
    have t5 := sameNew (o := .lst ((ks.take at_).map V.str ++ [V.str odd] ++ (ks.drop (at_ + form % 2)).map V.str)) h5
    refine ⟨_, rfl, (by show 2 ≤ sizeLine; decide), fun T hT => ?_⟩
    have t6 := sameNew (o := .tup [V.ref x5, V.ref b]) hT
    have t15 := (((t1.trans t2).trans t3).trans t4)
    have t17 := (t15.trans t5).trans t6
    have hD8 := hD7.same t15
    refine q T x5 b (ks.take at_ ++ [odd] ++ ks.drop (at_ + form % 2)) ps _ (hD7.same t17) (k.trans (Kept.of t17)) ((k.trans (Kept.of (t15.trans t5))).none (hD7.same (t15.trans t5)) hT) upd_same (hD8.ned h5) (hD8.nec h5) bd bc ?_ (t17 b _ hb7) ⟨?_, ?_⟩ (oldP _ t17)
    · rw [t6 x5 _ upd_same, List.map_append, List.map_append]
      rfl
    · simp only [List.length_append, List.length_take, List.length_drop, List.length_cons, List.length_nil]
      omega
    · intro z hz
      rcases List.mem_append.mp hz with hz | hz
      · rcases List.mem_append.mp hz with hz | hz
        · have := T1.each z (List.mem_of_mem_take hz)
          exact ⟨by omega, this.2⟩
        · rw [List.mem_singleton.mp hz]
          exact ⟨oddl, odda⟩
      · have := T1.each z (List.mem_of_mem_drop hz)
        exact ⟨by omega, this.2⟩
  refine ⟨_, rfl, rfl, _, rfl, ?_⟩
  refine ite2 (fun f4 => ?_) (fun f4 => ?_)
  · refine ⟨(by show 0 ≤ sizeLine; exact Nat.zero_le _), fun x1 h1 => ?_⟩
    have t1 := sameNew (o := .lst []) h1
    refine ⟨_, rfl, (by show 2 ≤ sizeLine; decide), fun T hT => ?_⟩
    have t2 := sameNew (o := .tup [V.ref x1, V.ref b]) hT
    have t12 := t1.trans t2
    exact q T x1 b [] ps _ (hD7.same t12) (k.trans (Kept.of t12)) ((k.trans (Kept.of t1)).none (hD7.same t1) hT) upd_same (hD7.ned h1) (hD7.nec h1) bd bc (t2 x1 _ upd_same) (t12 b _ hb7) ⟨Nat.zero_le _, fun z hz => nomatch hz⟩ (oldP _ t12)
  refine ⟨_, rfl, rfl, _, rfl, ?_⟩
  refine ite2 (fun f5 => ?_) (fun f5 => ?_)
  · obtain ⟨zs, ez⟩ : ∃ zs : Str, zs = "abcdefghijklm" := ⟨_, rfl⟩
    have zl : zs.cps.toList.length = 13 := by rw [ez]; decide +kernel
    have zsz : zs.cps.size = 13 := by rw [← Array.length_toList]; exact zl
    have za : ∀ x ∈ zs.cps.toList, x < 128 := by rw [ez]; decide +kernel
    have xa : ("x" : Str).length = 1 ∧ Ascii "x" := by unfold Ascii; decide +kernel
    rw [← ez]
    refine ⟨zs, rfl, fun D hDn => ?_⟩
    have hN := sameNew (o := .lst []) hDn
    refine lc_it walk_str (fun i H' => Same H7 H' ∧ H' D = some (.lst (((zs.cps.toList.take i).map fun x => (⟨#[x]⟩ : Str) ++ ("x" : Str)).map V.str))) ⟨hN, upd_same⟩ (fun _ _ _ _ => True.intro) ?_ ?_
    · rintro i x G1 G2 hi ⟨g1, g2⟩ ⟨rfl, u, hu, rfl⟩
      have hu' : zs.cps.toList[i]? = some u := by rw [Array.getElem?_toList]; exact hu
      refine ⟨rfl, _, rfl, _, _, rfl, rfl, (by rw [xa.1]; exact Nat.le_of_lt (small1000 (by show 1 + 1 ≤ 1000; omega))), _, g2, ?_, Same.upd g1 hDn, ?_⟩
      · rw [List.length_map, List.length_map, List.length_take]
        exact small1000 (by omega)
      · rw [upd_same, List.take_succ, hu', List.map_append, List.map_append]
        rfl
    rintro G ⟨g1, g2⟩
    rw [zsz, ← zl, List.take_length] at g2
    have hDG := hD7.same g1
    have Dd := hD7.ned hDn
    have Dc := hD7.nec hDn
    refine ⟨_, rfl, d, c, 2, rfl, hDG, by decide, by decide, fun r0 G2 w0 w1 hDG2 kG2 => ?_⟩
    obtain ⟨r, rfl⟩ : ∃ x : Nat, r0 = (x : Int) := ⟨r0.toNat, by omega⟩
    refine ⟨_, _, rfl, rfl, _, rfl, D, _, rfl, SqL.of (kG2 D _ Dd Dc g2), fun x1 h1 => ?_⟩
    have er : (12 : Int) + (r : Int) = ((12 + r : Nat) : Int) := by omega
    rw [er, cutTakeV, ← List.map_take]
    obtain ⟨L, eL⟩ : ∃ L : List Str, L = (zs.cps.toList.map fun x => (⟨#[x]⟩ : Str) ++ ("x" : Str)).take (12 + r) := ⟨_, rfl⟩
    rw [← eL]
    have okL : ∀ z ∈ L, z.length ≤ l + 1 ∧ Ascii z := fun z hz => by
      rw [eL] at hz
      obtain ⟨x, hx, rfl⟩ := List.mem_map.mp (List.mem_of_mem_take hz)
      refine ⟨?_, fun y hy => ?_⟩
      · have : ((⟨#[x]⟩ : Str) ++ ("x" : Str)).length = 1 + 1 := by
          show (#[x] ++ ("x" : Str).cps).size = 2
          rw [Array.size_append]
          have : ("x" : Str).cps.size = 1 := xa.1
          rw [this]
          rfl
        omega
      · have hy : y ∈ (#[x] ++ ("x" : Str).cps).toList := hy
        rw [Array.toList_append] at hy
        rcases List.mem_append.mp hy with hy | hy
        · have hy : y ∈ [x] := hy
          rw [List.mem_singleton.mp hy]
          exact za x hx
        · exact xa.2 y hy
    have lL : L.length ≤ 13 := by
      rw [eL, List.length_take, List.length_map, zl]
      omega
    have kk := (k.trans (Kept.of g1)).trans kG2
    have t1 := sameNew (o := .lst (L.map V.str)) h1
    have P2 : Prs K d c G2 ps (m + 1) := ⟨by have := P1.len; omega, fun e he => ⟨(P1.each e he).1, (P1.each e he).2.1, kk _ _ (P1.each e he).1 (P1.each e he).2.1 (P1.each e he).2.2⟩⟩
    refine ⟨_, rfl, (by show 2 ≤ sizeLine; decide), fun T hT => ?_⟩
    have t2 := sameNew (o := .tup [V.ref x1, V.ref b]) hT
    have t12 := t1.trans t2
    exact q T x1 b L ps _ (hDG2.same t12) (kk.trans (Kept.of t12)) ((kk.trans (Kept.of t1)).none (hDG2.same t1) hT) upd_same (hDG2.ned h1) (hDG2.nec h1) bd bc (t2 x1 _ upd_same) (t12 b _ (kk b _ bd bc hb)) ⟨by omega, okL⟩
      ⟨P2.len, fun e he => ⟨(P2.each e he).1, (P2.each e he).2.1, t12 _ _ (P2.each e he).2.2⟩⟩
  have pl := P1.len
  refine ⟨_, rfl, _, rfl, b, _, rfl, .inl (SqL.of hb7), _, _, rfl, rfl, d, c, _, rfl, hD7, by rw [List.length_map]; omega, by rw [List.length_map]; omega, fun sp0 H8 w0 w1 hD8 k8 => ?_⟩
  obtain ⟨spot, rfl⟩ : ∃ x : Nat, sp0 = (x : Int) := ⟨sp0.toNat, by omega⟩
  have two : 2 ≤ sizeLine := by decide
  refine ⟨_, rfl, _, rfl, two, fun t1 h1 => ⟨_, rfl, _, rfl, two, fun t2 h2 => ⟨_, rfl, _, rfl, two, fun t3 h3 => ⟨_, rfl, two, fun t4 h4 => ⟨_, rfl, two, fun t5 h5 => ⟨(by show 5 ≤ sizeLine; decide), fun Lp hLp => ?_⟩⟩⟩⟩⟩⟩
  have u1 := sameNew (o := .tup [V.str name, V.str name]) h1
  have u2 := sameNew (o := .tup [V.str name, V.str odd]) h2
  have u3 := sameNew (o := .tup [V.str odd, V.str name]) h3
  have u4 := sameNew (o := .tup [V.str "zqzqzq", V.str name]) h4
  have u5 := sameNew (o := .tup [V.str name, V.str "zqzqzq"]) h5
  have u6 := sameNew (o := .lst [V.ref t1, V.ref t2, V.ref t3, V.ref t4, V.ref t5]) hLp
  obtain ⟨PL, ePL⟩ : ∃ PL : PA2, PL = [(t1, (name, name)), (t2, (name, odd)), (t3, (odd, name)), (t4, (("zqzqzq" : Str), name)), (t5, (name, ("zqzqzq" : Str)))] := ⟨_, rfl⟩
  have d1 := hD8.same u1
  have d2 := d1.same u2
  have d3 := d2.same u3
  have d4 := d3.same u4
  have d5 := d4.same u5
  have d6 := d5.same u6
  have here : ∀ e ∈ PL, e.1 ≠ d ∧ e.1 ≠ c ∧ upd (upd (upd (upd (upd (upd H8 t1 (.tup [V.str name, V.str name])) t2 (.tup [V.str name, V.str odd])) t3 (.tup [V.str odd, V.str name])) t4 (.tup [V.str "zqzqzq", V.str name])) t5 (.tup [V.str name, V.str "zqzqzq"])) Lp (.lst [V.ref t1, V.ref t2, V.ref t3, V.ref t4, V.ref t5]) e.1 = some (.tup [.str e.2.1, .str e.2.2]) := by
    intro e he
    rw [ePL] at he
    simp only [List.mem_cons, List.not_mem_nil, or_false] at he
    rcases he with rfl | rfl | rfl | rfl | rfl
    · exact ⟨hD8.ned h1, hD8.nec h1, u6 _ _ (u5 _ _ (u4 _ _ (u3 _ _ (u2 _ _ upd_same))))⟩
    · exact ⟨d1.ned h2, d1.nec h2, u6 _ _ (u5 _ _ (u4 _ _ (u3 _ _ upd_same)))⟩
    · exact ⟨d2.ned h3, d2.nec h3, u6 _ _ (u5 _ _ (u4 _ _ upd_same))⟩
    · exact ⟨d3.ned h4, d3.nec h4, u6 _ _ (u5 _ _ upd_same)⟩
    · exact ⟨d4.ned h5, d4.nec h5, u6 _ _ upd_same⟩
  have eLp : upd (upd (upd (upd (upd (upd H8 t1 (.tup [V.str name, V.str name])) t2 (.tup [V.str name, V.str odd])) t3 (.tup [V.str odd, V.str name])) t4 (.tup [V.str "zqzqzq", V.str name])) t5 (.tup [V.str name, V.str "zqzqzq"])) Lp (.lst [V.ref t1, V.ref t2, V.ref t3, V.ref t4, V.ref t5]) Lp = some (.lst (PL.map fun e => V.ref e.1)) := by rw [upd_same, ePL]; rfl
  have Lpd := d5.ned hLp
  have Lpc := d5.nec hLp
  have kk := (k.trans k8).trans (Kept.of (((((u1.trans u2).trans u3).trans u4).trans u5).trans u6))
  generalize upd (upd (upd (upd (upd (upd H8 t1 (.tup [V.str name, V.str name])) t2 (.tup [V.str name, V.str odd])) t3 (.tup [V.str odd, V.str name])) t4 (.tup [V.str "zqzqzq", V.str name])) t5 (.tup [V.str name, V.str "zqzqzq"])) Lp (.lst [V.ref t1, V.ref t2, V.ref t3, V.ref t4, V.ref t5]) = H9 at d6 here eLp kk
  clear u1 u2 u3 u4 u5 u6 d1 d2 d3 d4 d5
  have pl5 : PL.length = 5 := by rw [ePL]; rfl
  refine ⟨_, rfl, d, c, 5, rfl, d6, by decide, by decide, fun i0 H10 w2 w3 hD10 k10 => ?_⟩
  obtain ⟨i, rfl⟩ : ∃ x : Nat, i0 = (x : Int) := ⟨i0.toNat, by omega⟩
  obtain ⟨e, he⟩ : ∃ z, PL[i]? = some z := ⟨_, List.getElem?_eq_getElem (by omega)⟩
  obtain ⟨ed, ec, ee⟩ := here e (List.mem_of_getElem? he)
  refine ⟨Lp, _, (i : Int), _, rfl, rfl, SqL.of (k10 Lp _ Lpd Lpc eLp), atI_nat (by rw [List.getElem?_map, he]; rfl), ?_⟩
  have k0 := kk.trans k10
  have ee10 := k10 _ _ ed ec ee
  have ha10 := k0 a _ ad ac ha
  have hb10 := k0 b _ bd bc hb
  refine ⟨_, rfl, _, rfl, _, rfl, _, rfl, b, _, rfl, SqL.of hb10, fun x1 g1 => ?_⟩
  rw [cutTakeV, ← List.map_take]
  have v1 := sameNew (o := .lst ((ps.take spot).map fun e => V.ref e.1)) g1
  refine ⟨_, rfl, (by show 1 ≤ sizeLine; decide), fun x2 g2 => ?_⟩
  have v2 := sameNew (o := .lst [V.ref e.1]) g2
  refine ⟨x1, x2, _, _, rfl, rfl, v2 x1 _ upd_same, upd_same, ?_, fun x3 g3 => ?_⟩
  · simp only [List.length_map, List.length_take, List.length_cons, List.length_nil]
    exact small1000 (by omega)
  have v3 := sameNew (o := .lst (((ps.take spot).map fun e => V.ref e.1) ++ [V.ref e.1])) g3
  have hb3 := v3 b _ (v2 b _ (v1 b _ hb10))
  refine ⟨_, rfl, _, rfl, _, rfl, b, _, rfl, SqL.of hb3, fun x4 g4 => ?_⟩
  rw [cutDropV, ← List.map_drop]
  have v4 := sameNew (o := .lst ((ps.drop spot).map fun e => V.ref e.1)) g4
  refine ⟨x3, x4, _, _, rfl, rfl, v4 x3 _ upd_same, upd_same, ?_, fun x5 g5 => ?_⟩
  · simp only [List.length_append, List.length_map, List.length_take, List.length_drop, List.length_cons, List.length_nil]
    exact Nat.le_of_lt (small1000 (by omega))
  have v5 := sameNew (o := .lst (((ps.take spot).map fun e => V.ref e.1) ++ [V.ref e.1] ++ (ps.drop spot).map fun e => V.ref e.1)) g5
  refine ⟨(by show 2 ≤ sizeLine; decide), fun T hT => ?_⟩
  have v6 := sameNew (o := .tup [V.ref a, V.ref x5]) hT
  have v14 := ((v1.trans v2).trans v3).trans v4
  have v15 := v14.trans v5
  have v16 := v15.trans v6
  have d14 := hD10.same v14
  refine q T a x5 ks (ps.take spot ++ [e] ++ ps.drop spot) _ (hD10.same v16) (k0.trans (Kept.of v16)) ((k0.trans (Kept.of v15)).none (hD10.same v15) hT) upd_same ad ac (d14.ned g5) (d14.nec g5) (v16 a _ ha10) ?_ ⟨by omega, fun z hz => ?_⟩ ⟨?_, fun z hz => ?_⟩
  · rw [v6 x5 _ upd_same, List.map_append, List.map_append]
    rfl
  · have := T1.each z hz
    exact ⟨by omega, this.2⟩
  · simp only [List.length_append, List.length_take, List.length_drop, List.length_cons, List.length_nil]
    omega
  · have old : ∀ z ∈ ps, z.1 ≠ d ∧ z.1 ≠ c ∧ H10 z.1 = some (.tup [.str z.2.1, .str z.2.2]) := fun z hz => ⟨(P1.each z hz).1, (P1.each z hz).2.1, k0 _ _ (P1.each z hz).1 (P1.each z hz).2.1 (P1.each z hz).2.2⟩
    have all : z.1 ≠ d ∧ z.1 ≠ c ∧ H10 z.1 = some (.tup [.str z.2.1, .str z.2.2]) := by
      rcases List.mem_append.mp hz with hz | hz
      · rcases List.mem_append.mp hz with hz | hz
        · exact old z (List.mem_of_mem_take hz)
        · rw [List.mem_singleton.mp hz]
          exact ⟨ed, ec, ee10⟩
      · exact old z (List.mem_of_mem_drop hz)
    exact ⟨all.1, all.2.1, v16 _ _ all.2.2⟩
end
end L2.Und
end

section
set_option Elab.async false
set_option linter.all false
set_option maxRecDepth 100000
set_option maxHeartbeats 8000000
namespace L2.Und
open PySem PySem.Spec PyProof.Rows _root_.Und
open L2.KS SX
open PySem.W (findIn keepIn typeIn subIn)
/-! ### the law -/
abbrev sLaw : Stmt := topS 29
abbrev nLaw : List Str := ["_law_script", "_law_base", "_law_deal_here", "_law_kinds", "_law_pairs_here", "_law_turn", "_law_one", "_law_some", "_law_form", "_law_told_here"]
theorem scLaw : FnScope nLaw ["_law_script"] (defScope sLaw) := ⟨rfl, rfl, rfl, by decide +kernel, rfl, by decide +kernel, by decide +kernel⟩
def spLaw (K : PySem.W.Frag) : Sp := fun vs H Q _ => ∃ (a : Addr) (ns : List Int), vs = [.ref a] ∧ SqL K H a (ns.map V.int) ∧ ns.length ≤ 63 ∧ ∀ H', Q (.bl true) H'
/-- what the law's text and the program's text have written -/
structure Env3 (P : Program) (w : World) (K : PySem.W.Frag) (mg : Str → Option Value) (base : Heap) : Prop where
  deal : ∃ f fd, mg "_law_deal" = some (.ref f) ∧ keepIn K (.ref f) = true ∧ FnOk P w K mg base CX0 1 f fd ["_law_script", "_law_base"] (spDeal K) ∧ Binds K fd ["_law_script", "_law_base"] []
  draw : ∃ f fd, mg "_law_draw" = some (.ref f) ∧ keepIn K (.ref f) = true ∧ FnOk P w K mg base CX0 1 f fd ["_law_deal_here", "_law_many"] spDraw ∧ Binds K fd ["_law_deal_here", "_law_many"] []
  names : ∃ f fd x, mg "_law_names" = some (.ref f) ∧ keepIn K (.ref f) = true ∧ FnOk P w K mg base CX0 3 f fd ["_law_deal_here", x] spNames ∧ Binds K fd ["_law_deal_here", x] []
  pairs : ∃ f fd, mg "_law_pairs" = some (.ref f) ∧ keepIn K (.ref f) = true ∧ FnOk P w K mg base CX0 3 f fd ["_law_deal_here", "_law_kinds"] (spPairs K) ∧ Binds K fd ["_law_deal_here", "_law_kinds"] []
  due : ∃ f fd, mg "_law_due" = some (.ref f) ∧ keepIn K (.ref f) = true ∧ FnOk P w K mg base CX0 2 f fd ["_law_kinds", "_law_pairs_here"] (spDue K) ∧ Binds K fd ["_law_kinds", "_law_pairs_here"] []
  told : ∃ f fd, mg "_law_told" = some (.ref f) ∧ keepIn K (.ref f) = true ∧ FnOk P w K mg base CX0 6 f fd ["_law_kinds", "_law_pairs_here"] (spTold K) ∧ Binds K fd ["_law_kinds", "_law_pairs_here"] []
  bent : ∃ f fd, mg "_law_bent" = some (.ref f) ∧ keepIn K (.ref f) = true ∧ FnOk P w K mg base CX0 2 f fd ["_law_deal_here", "_law_kinds", "_law_pairs_here"] (spBent K) ∧ Binds K fd ["_law_deal_here", "_law_kinds", "_law_pairs_here"] []
  bN : mg "range" = none
  bR : mg "repr" = none
  bT : mg "tuple" = none
theorem told_of {K : PySem.W.Frag} {H : Hp} {Q : VK} {E : XK} {a b : Addr} {ks : List Str} {ps : PA2} (ha : SqA K H a (ks.map V.str)) (hb : SqA K H b (ps.map fun e => V.ref e.1)) (hp : ∀ e ∈ ps, SqT K H e.1 [.str e.2.1, .str e.2.2])
    (hl : ks.length ≤ 1000) (hk : ∀ k ∈ ks, k.length ≤ 1000) (hn : ps.length ≤ 75) (h : ∀ x H', Same H H' → Res x (dueOf ks (ps.map fun e => [e.2.1, e.2.2])) H' → Q x H') : spTold K [.ref a, .ref b] H Q E :=
  ⟨a, b, ks, ps, rfl, ha, hb, hp, hl, hk, hn, fun e H' s => h _ _ s (.inl ⟨e, rfl⟩), fun t i e p H' s _ ep => h _ _ s (.inr ⟨p, t, i, e, rfl, ep⟩)⟩
theorem due_of {K : PySem.W.Frag} {H : Hp} {Q : VK} {E : XK} {a b : Addr} {ks : List Str} {ps : PA2} (ha : SqL K H a (ks.map V.str)) (hb : SqL K H b (ps.map fun e => V.ref e.1)) (hp : ∀ e ∈ ps, SqT K H e.1 [.str e.2.1, .str e.2.2])
    (hl : ks.length ≤ 1000) (hk : ∀ k ∈ ks, k.length ≤ 1000 ∧ Ascii k) (h : ∀ x H', Same H H' → Res x (dueOf ks (ps.map fun e => [e.2.1, e.2.2])) H' → Q x H') : spDue K [.ref a, .ref b] H Q E :=
  ⟨a, b, ks, ps, rfl, ha, hb, hp, hl, hk, fun e H' s => h _ _ s (.inl ⟨e, rfl⟩), fun t i e p H' s _ ep => h _ _ s (.inr ⟨p, t, i, e, rfl, ep⟩)⟩
/-- behind the second bending -/
def Mid3 (K : PySem.W.Frag) (H4 : Hp) (d c : Addr) (pre : List (Option V)) : L2.St → Hp → Prop := fun σ H' => ∃ (o so : Addr) (ks : List Str) (ps : PA2) (v8 v9 : Option V), σ = pre ++ [some (.ref o), some (.ref so), v8, v9] ∧ Deal H' d c ∧ Kept d c H4 H' ∧ o ≠ d ∧ o ≠ c ∧ so ≠ d ∧ so ≠ c ∧
  H' o = some (.lst (ks.map V.str)) ∧ H' so = some (.lst (ps.map fun e => V.ref e.1)) ∧ Txts ks 14 9 ∧ Prs K d c H' ps 68
section
variable {P : Program} {w : World} {K : PySem.W.Frag} {mg : Str → Option Value} {base : Heap}
theorem okLaw {f : Addr} {fd : FuncData} (F : Fun K "law" "law" sLaw f fd) (Z : Env3 P w K mg base) : FnG P w K mg base 8 f fd ["_law_script"] (spLaw K) := by
  refine okG F scLaw (fun vs H Q E h => ?_) (fun cdv A outer s H vs Q E hA hr h => ?_)
  · obtain ⟨a, ns, rfl, _⟩ := h
    rfl
  have hu : (A.deeper (envOfC "law" (defScope sLaw) s.heap.objs.size f cdv)).units + 64 < cLine := by have := hr.un; omega
  have hG : (A.deeper (envOfC "law" (defScope sLaw) s.heap.objs.size f cdv)).guards = some [] := hA
  have hr1 : Room 1 (A.deeper (envOfC "law" (defScope sLaw) s.heap.objs.size f cdv)) := hr.mono (by decide)
  have hr2 : Room 2 (A.deeper (envOfC "law" (defScope sLaw) s.heap.objs.size f cdv)) := hr.mono (by decide)
  have hr3 : Room 3 (A.deeper (envOfC "law" (defScope sLaw) s.heap.objs.size f cdv)) := hr.mono (by decide)
  have hr6 : Room 6 (A.deeper (envOfC "law" (defScope sLaw) s.heap.objs.size f cdv)) := hr.mono (by decide)
  obtain ⟨fD, fdD, mD, kD, GD, bD⟩ := Z.deal
  obtain ⟨fW, fdW, mW, kW, GW, bW⟩ := Z.draw
  obtain ⟨fN, fdN, xN, mN, kN, GN, bN⟩ := Z.names
  obtain ⟨fP, fdP, mP, kP, GP, bP⟩ := Z.pairs
  obtain ⟨fU, fdU, mU, kU, GU, bU⟩ := Z.due
  obtain ⟨fT, fdT, mT, kT, GT, bT⟩ := Z.told
  obtain ⟨fB, fdB, mB, kB, GB, bB⟩ := Z.bent
  refine ⟨_, pss_cons (ps_for PassesOwn.never rfl (pi_range1 rfl Z.bN (pa_cons pe_int pa_nil)) (pg_name (i := 1) scLaw.nd rfl (Or.inl rfl))
      (pss_cons (ps_set (i := 2) scLaw.nd rfl (Or.inl rfl) (pe_call GD hr1 rfl mD kD bD .nil pass0 (pa_cons (pv 0) (pa_cons (pv 1) pa_nil))))
      (pss_cons (ps_set (i := 3) scLaw.nd rfl (Or.inl rfl) (pe_call GN hr3 rfl mN kN bN .nil pass0 (pa_cons (pv 2) (pa_cons (pe_op op_add pe_int (pe_call GW hr1 rfl mW kW bW .nil pass0 (pa_cons (pv 2) (pa_cons pe_int pa_nil)))) pa_nil))))
      (pss_cons (ps_set (i := 4) scLaw.nd rfl (Or.inl rfl) (pe_call GP hr3 rfl mP kP bP .nil pass0 (pa_cons (pv 2) (pa_cons (pv 3) pa_nil))))
      (pss_cons (ps_for PassesOwn.never rfl (pi_range1 rfl Z.bN (pa_cons pe_int pa_nil)) (pg_name (i := 5) scLaw.nd rfl (Or.inl rfl))
        (pss_cons (ps_asg (pe_call GB hr2 rfl mB kB bB .nil pass0 (pa_cons (pv 2) (pa_cons (pv 3) (pa_cons (pv 4) pa_nil)))) (pg_tup rfl (pgs_cons (pg_name (i := 6) scLaw.nd rfl (Or.inl rfl)) (pgs_cons (pg_name (i := 7) scLaw.nd rfl (Or.inl rfl)) pgs_nil))))
        (C8.pss_cut (ps_if (pt_cmpR op_eq (pe_call GW hr1 rfl mW kW bW .nil pass0 (pa_cons (pv 2) (pa_cons pe_int pa_nil))) pe_int (nomark _))
            (pss_one (ps_asg (pe_call GB hr2 rfl mB kB bB .nil pass0 (pa_cons (pv 2) (pa_cons (pv 6) (pa_cons (pv 7) pa_nil)))) (pg_tup rfl (pgs_cons (pg_name (i := 6) scLaw.nd rfl (Or.inl rfl)) (pgs_cons (pg_name (i := 7) scLaw.nd rfl (Or.inl rfl)) pgs_nil))))) pss_nil)
        (pss_one (ps_for PassesOwn.never rfl (pi_range1 rfl Z.bN (pa_cons pe_int pa_nil)) (pg_name (i := 8) scLaw.nd rfl (Or.inl rfl))
          (pss_cons (ps_set (i := 9) scLaw.nd rfl (Or.inl rfl) (pe_call GT hr6 rfl mT kT bT .nil pass0
              (pa_cons (pe_ix ix_list (pe_lst (pa_cons (pv 6) (pa_cons (pe_callTy call_tuple_of rfl Z.bT PyProof.Rows.Boot.«tuple» (pa_cons (pv 6) pa_nil)) pa_nil))) (pv 8) (fun _ _ => rfl))
              (pa_cons (pe_ix ix_list (pe_lst (pa_cons (pe_callTy call_tuple_of rfl Z.bT PyProof.Rows.Boot.«tuple» (pa_cons (pv 7) pa_nil)) (pa_cons (pv 7) pa_nil))) (pv 8) (fun _ _ => rfl)) pa_nil))))
          (pss_one (ps_if (pt_cmpR op_ne (pe_callB (callShowN hG hu) rfl Z.bR PyProof.Rows.boot_repr (pa_cons (pv 9) pa_nil)) (pe_callB (callShowN hG hu) rfl Z.bR PyProof.Rows.boot_repr (pa_cons (pe_call GU hr2 rfl mU kU bU .nil pass0 (pa_cons (pv 6) (pa_cons (pv 7) pa_nil))) pa_nil)) (nomark _))
            (pss_one (ps_ret pe_bl)) pss_nil))))))))
      (pss_one (ps_if (pt_cmpR op_notN (pe_call GT hr6 rfl mT kT bT .nil pass0 (pa_cons (pv 3) (pa_cons (pv 4) pa_nil))) pe_non rfl) (pss_one (ps_ret pe_bl)) pss_nil))))))) (pss_one (ps_ret pe_bl)), ?_⟩
  obtain ⟨a, ns, rfl, hS, h63, q⟩ := h
  refine ⟨2, rfl, by decide, by decide, for_range (lo := 0) (n := 2) (fun _ σ H' => Same H H' ∧ ∃ v1 v2 v3 v4 v5 v6 v7 v8 v9 : Option V, σ = [some (.ref a), v1, v2, v3, v4, v5, v6, v7, v8, v9]) ⟨Same.refl _, _, _, _, _, _, _, _, _, _, rfl⟩ ?_ ?_⟩
  · rintro j σ H0 hj ⟨sH, v1, v2, v3, v4, v5, v6, v7, v8, v9, rfl⟩
    refine ⟨_, rfl, _, rfl, a, ns, _, rfl, sH.seq hS, h63, by omega, by omega, fun d c H1 s1 nd nc D1 => ?_⟩
    refine ⟨_, rfl, _, rfl, d, c, 12, rfl, D1, by decide, by decide, fun n0 H2 z0 z1 D2 k2 => ?_⟩
    obtain ⟨n1, rfl⟩ : ∃ x : Nat, n0 = (x : Int) := ⟨n0.toNat, by omega⟩
    have en : (1 : Int) + (n1 : Int) = ((1 + n1 : Nat) : Int) := by omega
    refine ⟨_, _, rfl, rfl, d, c, 1 + n1, by show [V.ref d, V.int ((1 : Int) + (n1 : Int))] = _; rw [en], D2, by omega, by omega, fun kA ks H3 nk D3 k3 ek gk => ?_⟩
    have kd := D2.ned nk
    have kc := D2.nec nk
    have kl := gk.len
    have short : ∀ k ∈ ks, k.length ≤ 6 ∧ Ascii k := fun k hk => name_short (gk.nm k hk)
    refine ⟨_, rfl, _, rfl, d, c, kA, ks, rfl, D3, ek, kd, kc, gk.nd, by omega, fun k hk => ?_, fun pA L H4 np D4 k4 ep prs fresh gp => ?_⟩
    · unfold PyData.strOk
      rw [← Array.all_toList, List.all_eq_true]
      intro x hx
      have := (short k hk).2 x hx
      exact decide_eq_true (by omega)
    have pd := D3.ned np
    have pc := D3.nec np
    have few : L.length ≤ 66 := by
      have := pairs_few gp (by omega : ks.length ≤ 12)
      rwa [List.length_map] at this
    have ek4 := k4 kA _ kd kc ek
    have T0 : Txts ks 12 7 := ⟨by omega, fun k hk => ⟨by have := (short k hk).1; omega, (short k hk).2⟩⟩
    have P0 : Prs K d c H4 L 66 := ⟨few, fun e he => ⟨D3.ned (fresh e he), D3.nec (fresh e he), prs e he⟩⟩
    refine ⟨6, rfl, by decide, by decide, for_range (lo := 0) (n := 6) (fun _ σ H' => Deal H' d c ∧ Kept d c H4 H' ∧ ∃ v5 v6 v7 v8 v9 : Option V, σ = [some (.ref a), some (.int (0 + (j : Nat))), some (.ref d), some (.ref kA), some (.ref pA), v5, v6, v7, v8, v9]) ⟨D4, Kept.refl _ _ _, _, _, _, _, _, rfl⟩ ?_ ?_⟩
    · rintro t σ H5 ht ⟨D5, k5, v5, v6, v7, v8, v9, rfl⟩
      have P5 : Prs K d c H5 L 66 := ⟨few, fun e he => ⟨(P0.each e he).1, (P0.each e he).2.1, k5 _ _ (P0.each e he).1 (P0.each e he).2.1 (P0.each e he).2.2⟩⟩
      refine ⟨_, rfl, _, rfl, _, rfl, d, c, kA, pA, ks, L, 12, 7, 66, rfl, D5, kd, kc, pd, pc, k5 _ _ kd kc ek4, k5 _ _ pd pc ep, T0, by omega, by omega, by omega, by omega, P5, by omega, fun t1 o1 s1' ks1 ps1 H6 D6 k6 nt et od oc sd sc eo es Tx Px => ?_⟩
      refine ⟨t1, _, rfl, SqT.of et, rfl, _, _, rfl, _, _, rfl, rfl, ?_⟩
      refine ⟨Mid3 K H4 d c [some (.ref a), some (.int (0 + (j : Nat))), some (.ref d), some (.ref kA), some (.ref pA), some (.int (0 + (t : Nat)))], ?_, ?_⟩
      · refine ⟨_, rfl, d, c, 2, rfl, D6, by decide, by decide, fun r H7 y0 y2 D7 k7 => ⟨rfl, _, rfl, ?_⟩⟩
        have kk := (k5.trans k6).trans k7
        have eo7 := k7 _ _ od oc eo
        have es7 := k7 _ _ sd sc es
        have Px7 : Prs K d c H7 ps1 67 := ⟨Px.len, fun e he => ⟨(Px.each e he).1, (Px.each e he).2.1, k7 _ _ (Px.each e he).1 (Px.each e he).2.1 (Px.each e he).2.2⟩⟩
        refine ite2 (fun _ => ?_) (fun _ => ?_)
        · refine ⟨_, rfl, _, rfl, _, rfl, d, c, o1, s1', ks1, ps1, 13, 8, 67, rfl, D7, od, oc, sd, sc, eo7, es7, Tx, by omega, by omega, by omega, by omega, Px7, by omega, fun t2 o2 s2' ks2 ps2 H8 D8 k8 nt2 et2 od2 oc2 sd2 sc2 eo2 es2 Tx2 Px2 => ?_⟩
          refine ⟨t2, _, rfl, SqT.of et2, rfl, _, _, rfl, _, _, rfl, rfl, ?_⟩
          exact ⟨o2, s2', ks2, ps2, _, _, rfl, D8, kk.trans k8, od2, oc2, sd2, sc2, eo2, es2, Tx2, Px2⟩
        · exact ⟨o1, s1', ks1, ps1, _, _, rfl, D7, kk, od, oc, sd, sc, eo7, es7, ⟨by have := Tx.len; omega, fun k hk => ⟨by have := (Tx.each k hk).1; omega, (Tx.each k hk).2⟩⟩, ⟨by have := Px7.len; omega, Px7.each⟩⟩
      · rintro σ H7 ⟨o, so, ks', ps', v8', v9', rfl, D7, k7, od, oc, sd, sc, eo, es, Tx, Px⟩
        have tl := Tx.len
        have pl := Px.len
        have sm : ∀ t i, dueOf ks' (ps'.map fun e => [e.2.1, e.2.2]) = some (t, i) → t ∈ [("count" : Str), "name", "pair"] ∧ (i = -1 ∨ ∃ n : Nat, i = (n : Int) ∧ n < 100) := fun t i e => due_small e (by omega) (by rw [List.length_map]; omega)
        refine ⟨2, rfl, by decide, by decide, for_range (lo := 0) (n := 2) (fun _ σ H' => Same H7 H' ∧ ∃ v8 v9 : Option V, σ = [some (.ref a), some (.int (0 + (j : Nat))), some (.ref d), some (.ref kA), some (.ref pA), some (.int (0 + (t : Nat))), some (.ref o), some (.ref so), v8, v9]) ⟨Same.refl _, _, _, rfl⟩ ?_ ?_⟩
        · rintro g σ H8 hg ⟨s8, w8, w9, rfl⟩
          have two : 2 ≤ sizeLine := by decide
          have pick : ∀ {u v : Addr} {HX : Hp} {xs : List V}, SqA K HX u xs → SqA K HX v xs → ∃ y, [V.ref u, V.ref v][g]? = some (V.ref y) ∧ SqA K HX y xs := fun {u v HX xs} h1 h2 => by
            rcases (by omega : g = 0 ∨ g = 1) with rfl | rfl
            · exact ⟨u, rfl, h1⟩
            · exact ⟨v, rfl, h2⟩
          refine ⟨_, rfl, _, rfl, o, _, rfl, .inl ⟨SqL.of (s8 o _ eo), fun l1 h1 => ⟨two, fun L1 hL1 => ?_⟩⟩⟩
          have u1 := sameNew (o := .tup (ks'.map V.str)) h1
          have u2 := sameNew (o := .lst [V.ref o, V.ref l1]) hL1
          obtain ⟨y1, hy1, sy1⟩ := pick (xs := ks'.map V.str) (.inl (SqL.of (u2 _ _ (u1 _ _ (s8 o _ eo))))) (.inr (SqT.of (u2 _ _ upd_same)))
          have at1 : atI [V.ref o, V.ref l1] (0 + (g : Nat)) = some (V.ref y1) := by rw [Int.zero_add]; exact atI_nat hy1
          refine ⟨_, rfl, L1, _, _, _, rfl, rfl, SqL.of upd_same, at1, ?_⟩
          have s10 := (s8.trans u1).trans u2
          generalize upd (upd H8 l1 (.tup (ks'.map V.str))) L1 (.lst [V.ref o, V.ref l1]) = H10 at sy1 s10
          refine ⟨_, rfl, so, _, rfl, .inl ⟨SqL.of (s10 so _ es), fun l2 h2 => ⟨_, rfl, two, fun L2 hL2 => ?_⟩⟩⟩
          have u3 := sameNew (o := .tup (ps'.map fun e => V.ref e.1)) h2
          have u4 := sameNew (o := .lst [V.ref l2, V.ref so]) hL2
          obtain ⟨y2, hy2, sy2⟩ := pick (xs := ps'.map fun e => V.ref e.1) (.inr (SqT.of (u4 _ _ upd_same))) (.inl (SqL.of (u4 _ _ (u3 _ _ (s10 so _ es)))))
          have at2 : atI [V.ref l2, V.ref so] (0 + (g : Nat)) = some (V.ref y2) := by rw [Int.zero_add]; exact atI_nat hy2
          refine ⟨_, rfl, L2, _, _, _, rfl, rfl, SqL.of upd_same, at2, ?_⟩
          have sy1' := SqA.same (SqA.same sy1 u3) u4
          have s12 := (s10.trans u3).trans u4
          generalize upd (upd H10 l2 (.tup (ps'.map fun e => V.ref e.1))) L2 (.lst [V.ref l2, V.ref so]) = H12 at sy1' sy2 s12
          dsimp only [tNil]
          refine told_of sy1' sy2 (fun e he => SqT.of (s12 _ _ (Px.each e he).2.2)) (by omega) (fun k hk => by have := (Tx.each k hk).1; omega) (by omega) fun x H13 s13 r => ?_
          have s13' := s12.trans s13
          refine ⟨_, rfl, r.shows sm ?_⟩
          refine ⟨_, rfl, _, rfl, ?_⟩
          dsimp only [tNil]
          refine due_of (SqL.of (s13' o _ eo)) (SqL.of (s13' so _ es)) (fun e he => SqT.of (s13' _ _ (Px.each e he).2.2)) (by omega) (fun k hk => by have := Tx.each k hk; exact ⟨by omega, this.2⟩) fun z H14 s14 r2 => r2.shows sm ?_
          refine ⟨rfl, _, rfl, ?_⟩
          have ne : (!decide (V.str (resD (dueOf ks' (ps'.map fun e => [e.2.1, e.2.2]))).shown = V.str (resD (dueOf ks' (ps'.map fun e => [e.2.1, e.2.2]))).shown)) = false := by rw [decide_eq_true rfl]; rfl
          show if (!decide (V.str (resD (dueOf ks' (ps'.map fun e => [e.2.1, e.2.2]))).shown = V.str (resD (dueOf ks' (ps'.map fun e => [e.2.1, e.2.2]))).shown)) = true then _ else _
          rw [ne]
          exact iteF ⟨s13'.trans s14, _, _, rfl⟩
        · rintro σ H8 ⟨s8, w8, w9, rfl⟩
          exact ⟨D7.same s8, k7.trans (Kept.of s8), _, _, _, _, _, rfl⟩
    · rintro σ H5 ⟨D5, k5, v5, v6, v7, v8, v9, rfl⟩
      have kin : dueOf ks (L.map fun e => [e.2.1, e.2.2]) = none := by
        have p := good_pairs (ks := ks) (xs := L.map (·.2)) gp.mem
        rw [List.map_map] at p
        have p : pairsBad ks (L.map fun e => [e.2.1, e.2.2]) = none := p
        unfold dueOf
        rw [good_kinds gk (by omega) (by omega), p]
        rfl
      refine ⟨_, rfl, _, rfl, ?_⟩
      dsimp only [tNil]
      refine told_of (.inl (SqL.of (k5 _ _ kd kc ek4))) (.inl (SqL.of (k5 _ _ pd pc ep))) (fun e he => SqT.of (k5 _ _ (P0.each e he).1 (P0.each e he).2.1 (P0.each e he).2.2)) (by omega) (fun k hk => by have := (short k hk).1; omega) (by omega) fun x H6 s6 r => ?_
      rw [kin] at r
      rcases r with ⟨_, rfl⟩ | ⟨_, _, _, e, _⟩
      · refine ⟨rfl, _, rfl, iteF ⟨fun b u e => ?_, _, _, _, _, _, _, _, _, _, rfl⟩⟩
        have e0 := sH b u e
        exact s6 b u ((((k2.trans k3).trans k4).trans k5) b u (ne_of_none e0 nd) (ne_of_none e0 nc) (s1 b u e0))
      · cases e
  · rintro σ H0 ⟨sH, v1, v2, v3, v4, v5, v6, v7, v8, v9, rfl⟩
    exact q H0
end
end L2.Und
end

section
set_option Elab.async false
set_option linter.all false
set_option maxRecDepth 100000
set_option maxHeartbeats 8000000
namespace L2.Und
open PySem PySem.Spec PyProof.Rows _root_.Und
open PySem.W (findIn keepIn typeIn subIn mroIn hasDictIn isClsIn specialIn takesIn nsIn codeIn)
/-! ### what the head writes of an error class, as the rules want it -/
/-- what is written of a class -/
structure Txt (K : PySem.W.Frag) (C : Addr) : Prop where
  keep : keepIn K (.ref C) = true
  sa : findIn K (.ref C) "__setattr__" = some (some (.builtin "object.__setattr__"))
  ga : findIn K (.ref C) "__getattribute__" = some (some (.builtin "BaseException.__getattribute__"))
  gg : findIn K (.ref C) "__getattr__" = some none
  exc : subIn K (.ref C) (.type "BaseException") = some true
  dct : hasDictIn K C = true
  kls : findIn K (.ref C) "__class__" = some (some (.builtin "object.__class__"))
  obj : mroIn K C (.type "object") = some true
  isc : isClsIn K C = true
  ty : typeIn K (.ref C) = some (.type "type")
  self : subIn K (.ref C) (.ref C) = some true
section
variable {P : Program} {w : World} {K : PySem.W.Frag} {mg : Str → Option Value} {h : Heap} {C D U N fI : Addr} {nm q : Str} {bs : List Value} {sn : List Str} {sub : List Value} {ab : Bool} {col : Option Bool}
variable {dd : Option Addr} {m0 m1 m2 m3 m5 : Option Value} {b : Bool}
abbrev veT : List Value := [.type "ValueError", .type "Exception", .type "BaseException", .type "object"]
theorem aboveV : Above "ValueError" (.ref U :: veT) := ⟨(by rw [List.contains_cons, show veT.contains (.type "ValueError") = true from by decide +kernel, Bool.or_true]), (by rw [List.contains_cons, show veT.contains (.type "AttributeError") = false from by decide +kernel, Bool.or_false]; rfl), (by rw [List.contains_cons, show veT.contains (.type "NameError") = false from by decide +kernel, Bool.or_false]; rfl)⟩
theorem aboveK : Above "LookupError" keTail := ⟨by decide +kernel, by decide +kernel, by decide +kernel⟩
theorem mkV (T : Txt K C) (l : K.lookup C = some (excClassObj nm q C N bs (.ref U :: veT) true sn sub ab col dd m0 m1 m2 m3 m5 "ValueError.__new__")) : ErrC K C :=
  ⟨⟨_, _, _, _, _, _, _, _, _, _, _, _, _, _, _, _, _, _, _, PySem.F.excBase_ValueError, aboveV, opens_VE.ref, l⟩, T.keep, T.sa, T.ga, T.gg, T.exc, T.dct, T.kls, T.obj⟩
theorem kitRef (TD : Txt K D) (TC : Txt K C) (s : subIn K (.ref C) (.ref D) = some b) : PySem.W.kitOne K (.ref C) (.ref D) = some b := by
  unfold PySem.W.kitOne
  by_cases e : C = D
  · subst e
    rw [if_pos (by simp)]
    rw [TC.self] at s
    exact s
  · rw [if_neg (by simpa using e)]
    have i : (PySem.W.clsIn K D).isSome = true := TD.isc
    show (if ((PySem.W.clsIn K D).isSome && typeIn K (.ref D) == some (.type "type")) = true then subIn K (.ref C) (.ref D) else none) = some b
    rw [i, TD.ty, if_pos (by decide)]
    exact s
end
structure TxtF (K : PySem.W.Frag) (x : Str) (st : Stmt) (f : Addr) (fd : FuncData) : Prop where
  here : nsIn K mainGlobals x = some (some (.ref f))
  fn : Fun K x x st f fd
theorem mkF {K : PySem.W.Frag} {x : Str} {st : Stmt} {f : Addr} {oc : Value} {od an : Option Addr} {osl : Array (Option Value)} {kV doc pm cdv ct : Value} (a : nsIn K mainGlobals x = some (some (.ref f))) (l : K.lookup f = some ⟨oc, od, .func (PySem.W.fnOf x x (defArgs st) (defBody st) (defScope st) .none kV doc pm an cdv ct), osl⟩)
    (c : codeIn K cdv x = true) (k : keepIn K (.ref f) = true) : TxtF K x st f (PySem.W.fnOf x x (defArgs st) (defBody st) (defScope st) .none kV doc pm an cdv ct) := ⟨a, fun_mk (st := st) l c k⟩
/-- own classes in except clauses -/
theorem exmSelf {K : PySem.W.Frag} {C : Addr} (T : Txt K C) : PySem.W.exmOne K (.ref C) (.ref C) = some true := PySem.W.exm_ref T.exc T.dct T.ty T.self
theorem excC {K : PySem.W.Frag} {C : Addr} (T : Txt K C) (hn : specialIn K (.builtin "object.__class__") "__get__" = some (some (.builtin "getset_descriptor.__get__"))) (ht : takesIn K (.builtin "object.__class__") = some true) : ExcC K C :=
  ⟨T.ga, T.gg, T.exc, T.dct, T.kls, hn, ht, T.obj⟩
theorem xfC {K : PySem.W.Frag} {C : Addr} (T : Txt K C) : XfC K C := ⟨T.ga, T.gg, T.exc, T.dct⟩
end L2.Und
end

section
set_option Elab.async false
set_option linter.all false
set_option maxRecDepth 100000
set_option maxHeartbeats 8000000
namespace L2.Und
open PySem PySem.Spec PyProof.Rows _root_.Und
open L2.KS SX
open PySem.W (findIn keepIn typeIn subIn mroIn hasDictIn isClsIn specialIn takesIn nsIn codeIn)
/-! ### the end: what the head has written gives the law -/
abbrev sErrIni : Stmt := clsPart (topS 3) 0
theorem finMk {l : PySem.W.OpenLaw} {w : World} {K : PySem.W.Frag} {h : Heap} {mg : Str → Option Value} {CE CT C fE fI fN fa f0 f1 f2 f3 f4 f5 f6 f7 f8 f9 g0 g1 g2 g3 g4 : Addr} {fd0 fd1 fd2 fd3 fd4 fd5 fd6 fd7 fd8 fd9 gd0 gd1 gd2 gd3 gd4 fdE fdI fdN : FuncData} {kws : List (Str × V)} {dvs : List V} {t1 t2 : Tok}
    (KX : K.In h) (G : h.Ns mainGlobals mg) (hfa : mg "law" = some (.ref fa))
    (gE : nsIn K mainGlobals "InvalidTable" = some (some (.ref CE))) (gX : nsIn K mainGlobals "InvalidText" = some (some (.ref CT))) (gT : nsIn K mainGlobals "Table" = some (some (.ref C)))
    (E : ErrC K CE) (tE : Txt K CE) (tX : Txt K CT) (no1 : findIn K (.ref CE) "word" = some none) (no2 : findIn K (.ref CE) "at" = some none) (sEX : subIn K (.ref CE) (.ref CT) = some false)
    (iE : findIn K (.ref CE) "__init__" = some (some (.ref fE))) (yE : typeIn K (.ref fE) = some (.type "function")) (FE : Fun K "__init__" "InvalidTable.__init__" sErrIni fE fdE)
    (hn : specialIn K (.builtin "object.__class__") "__get__" = some (some (.builtin "getset_descriptor.__get__"))) (ht : takesIn K (.builtin "object.__class__") = some true)
    (c : Cls K C) (n1 : NoAttr K C "kinds") (n2 : NoAttr K C "pairs") (n3 : NoAttr K C "_free") (n4 : NoAttr K C "_stops") (M : Mk K C fI) (mN : Meth K C "_not_free_with" fN) (FN : Fun K "_not_free_with" "Table._not_free_with" sTabNF fN fdN)
    (FI : FunD K "__init__" "Table.__init__" (defArgs sTabIni) (defBody sTabIni) (defScope sTabIni) dvs kws fI fdI) (bI : Binds K fdI ["self", "kinds", "pairs"] [])
    (z0 : nsIn K mainGlobals "repr" = some none) (z1 : nsIn K mainGlobals "range" = some none) (z2 : nsIn K mainGlobals "enumerate" = some none) (z3 : nsIn K mainGlobals "len" = some none) (z4 : nsIn K mainGlobals "isinstance" = some none)
    (z5 : nsIn K mainGlobals "int" = some none) (z6 : nsIn K mainGlobals "max" = some none) (z7 : nsIn K mainGlobals "tuple" = some none) (z8 : nsIn K mainGlobals "list" = some none) (z9 : nsIn K mainGlobals "sorted" = some none) (z10 : nsIn K mainGlobals "all" = some none)
    (c1 : nsIn K mainGlobals "MOST_LETTERS" = some (some (.int 6 t1))) (c2 : nsIn K mainGlobals "MOST_KINDS" = some (some (.int 12 t2)))
    (F0 : TxtF K "_law_deal" sDeal f0 fd0) (F1 : TxtF K "_law_draw" sDraw f1 fd1) (F2 : TxtF K "_law_mixed" sMixed f2 fd2) (F3 : TxtF K "_law_names" sNames f3 fd3) (F4 : TxtF K "_law_pairs" sPairs f4 fd4)
    (F5 : TxtF K "_law_is_name" sLName f5 fd5) (F6 : TxtF K "_law_due" sDue f6 fd6) (F7 : TxtF K "_law_told" sTold f7 fd7) (F8 : TxtF K "_law_bent" sBent f8 fd8) (F9 : TxtF K "law" sLaw f9 fd9)
    (G0 : TxtF K "is_name" sIsName g0 gd0) (G1 : TxtF K "ascending" sAsc g1 gd1) (G2 : TxtF K "is_pair" sIsPair g2 gd2) (G3 : TxtF K "check_kinds" sCheckK g3 gd3) (G4 : TxtF K "check_pairs" sCheckP g4 gd4)
    (b9 : ∀ (s : Shared) (v : Value), BindsTo s fd9 ⟨[v], []⟩ [("_law_script", v)]) :
    ∃ fd : FuncData, (∀ (s : Shared) (v : Value), BindsTo s fd ⟨[v], []⟩ [("_law_script", v)]) ∧ ∀ base : Heap, K.In base → base.Ns mainGlobals mg → FnG l.prog w K mg base 8 fa fd ["_law_script"] (spLaw K) := by
  have e := hfa.symm.trans (PySem.W.mg_of KX G F9.here)
  cases e
  refine ⟨fd9, b9, fun base _ _ => ?_⟩
  have n : ∀ {x : Str}, nsIn K mainGlobals x = some none → mg x = none := fun z => PySem.W.mg_none_of KX G z
  have m : ∀ {x : Str} {v : Value}, nsIn K mainGlobals x = some (some v) → mg x = some v := fun z => PySem.W.mg_of KX G z
  have b0 := F0.fn.binds (ps := ["_law_script", "_law_base"]) fun _ _ _ _ _ _ us hl => match us, hl with | [_, _], _ => rfl
  have b1 := F1.fn.binds (ps := ["_law_deal_here", "_law_many"]) fun _ _ _ _ _ _ us hl => match us, hl with | [_, _], _ => rfl
  have b2 := F2.fn.binds (ps := ["_law_deal_here", "_law_items"]) fun _ _ _ _ _ _ us hl => match us, hl with | [_, _], _ => rfl
  have b3 := F3.fn.binds (ps := ["_law_deal_here", "_law_many"]) fun _ _ _ _ _ _ us hl => match us, hl with | [_, _], _ => rfl
  have b4 := F4.fn.binds (ps := ["_law_deal_here", "_law_kinds"]) fun _ _ _ _ _ _ us hl => match us, hl with | [_, _], _ => rfl
  have b5 := F5.fn.binds (ps := ["_law_word"]) fun _ _ _ _ _ _ us hl => match us, hl with | [_], _ => rfl
  have b6 := F6.fn.binds (ps := ["_law_kinds", "_law_pairs_here"]) fun _ _ _ _ _ _ us hl => match us, hl with | [_, _], _ => rfl
  have b7 := F7.fn.binds (ps := ["_law_kinds", "_law_pairs_here"]) fun _ _ _ _ _ _ us hl => match us, hl with | [_, _], _ => rfl
  have b8 := F8.fn.binds (ps := ["_law_deal_here", "_law_kinds", "_law_pairs_here"]) fun _ _ _ _ _ _ us hl => match us, hl with | [_, _, _], _ => rfl
  have d0 := G0.fn.binds (ps := ["text"]) fun _ _ _ _ _ _ us hl => match us, hl with | [_], _ => rfl
  have d1 := G1.fn.binds (ps := ["pair"]) fun _ _ _ _ _ _ us hl => match us, hl with | [_], _ => rfl
  have d2 := G2.fn.binds (ps := ["pair", "kinds"]) fun _ _ _ _ _ _ us hl => match us, hl with | [_, _], _ => rfl
  have d3 := G3.fn.binds (ps := ["kinds"]) fun _ _ _ _ _ _ us hl => match us, hl with | [_], _ => rfl
  have d4 := G4.fn.binds (ps := ["kinds", "pairs"]) fun _ _ _ _ _ _ us hl => match us, hl with | [_, _], _ => rfl
  have dE := FE.binds (ps := ["self", "word", "at"]) fun _ _ _ _ _ _ us hl => match us, hl with | [_, _, _], _ => rfl
  have OE : FnOk l.prog w K mg base CX0 1 fE fdE ["self", "word", "at"] (spIni CE 2 (fld2 "word" "at")) := okIni2 FE ⟨rfl, rfl, rfl, by decide +kernel, rfl, by decide +kernel, by decide +kernel⟩ rfl E no1 no2 (by decide) (by decide) (by decide) (by decide)
  have TW : Two2 l.prog w K mg base "InvalidTable" "word" "at" CE := ⟨m gE, E, tE.ty, fE, fdE, iE, yE, OE, dE⟩
  have OD : FnOk l.prog w K mg base CX0 1 f1 fd1 ["_law_deal_here", "_law_many"] spDraw := okDraw F1.fn (n z3)
  have OM : FnOk l.prog w K mg base CX0 2 f2 fd2 ["_law_deal_here", "_law_items"] (spMixed K) := okMixed F2.fn OD (m F1.here) F1.fn.kp b1 (n z3) (n z8)
  have O0 : FnOk l.prog w K mg base CX0 1 g0 gd0 ["text"] spIsName := okIsName G0.fn (n z3) (n z10) (m c1)
  have O1 : FnOk l.prog w K mg base CX0 1 g1 gd1 ["pair"] (spAsc K) := okAsc G1.fn (n z7) (n z9)
  have O2 : FnOk l.prog w K mg base CX0 1 g2 gd2 ["pair", "kinds"] (spIsPair K) := okIsPair G2.fn (n z3)
  have O3 : FnOk l.prog w K mg base (L2.CX l.prog w) 3 g3 gd3 ["kinds"] (spCheckK K CE) := okCheckK G3.fn TW O0 (m G0.here) G0.fn.kp d0 (n z3) (n z2) (m c2)
  have O4 : FnOk l.prog w K mg base (L2.CX l.prog w) 3 g4 gd4 ["kinds", "pairs"] (spCheckP K CE) := okCheckP G4.fn TW O2 (m G2.here) G2.fn.kp d2 (n z2)
  have dN := FN.binds (ps := ["self", "one"]) fun _ _ _ _ _ _ us hl => match us, hl with | [_, _], _ => rfl
  have ON' : FnOk l.prog w K mg base CX0 2 fN fdN ["self", "one"] (spNF K C) := okNF FN c n1 n3 O1 (m G1.here) G1.fn.kp d1 (n z7)
  have OI : FnOk l.prog w K mg base (L2.CX l.prog w) 4 fI fdI ["self", "kinds", "pairs"] (spTabIni K C CE) := okTabIni FI c n1 n2 n3 n4 O3 (m G3.here) G3.fn.kp d3 O4 (m G4.here) G4.fn.kp d4 O1 (m G1.here) G1.fn.kp d1 mN ON' dN (n z7) (n z9)
  have ON : FnOk l.prog w K mg base CX0 1 f5 fd5 ["_law_word"] spLName := okLName F5.fn (n z3)
  exact okLaw F9.fn ⟨⟨f0, fd0, m F0.here, F0.fn.kp, okDeal F0.fn (n z6), b0⟩, ⟨f1, fd1, m F1.here, F1.fn.kp, OD, b1⟩,
    ⟨f3, fd3, _, m F3.here, F3.fn.kp, okNames F3.fn OD (m F1.here) F1.fn.kp b1 OM (m F2.here) F2.fn.kp b2 (n z1), b3⟩,
    ⟨f4, fd4, m F4.here, F4.fn.kp, okPairs F4.fn OD (m F1.here) F1.fn.kp b1 OM (m F2.here) F2.fn.kp b2 (n z2) (n z5), b4⟩,
    ⟨f6, fd6, m F6.here, F6.fn.kp, okDue F6.fn ON (m F5.here) F5.fn.kp b5 (n z3) (n z2), b6⟩,
    ⟨f7, fd7, m F7.here, F7.fn.kp, okTold F7.fn M OI (m gT) bI (m gE) (exmSelf tE) (excC tE hn ht) (xfC tE) no1 no2 (m gX) (kitRef tX tE sEX) (n z4), b7⟩,
    ⟨f8, fd8, m F8.here, F8.fn.kp, okBent F8.fn OD (m F1.here) F1.fn.kp b1 (n z3), b8⟩, n z1, n z0, n z7⟩
end L2.Und
end

section
set_option Elab.async false
set_option linter.all false
set_option maxRecDepth 100000
set_option maxHeartbeats 8000000
namespace L2.Und
open PySem PySem.Spec PyProof.Rows _root_.Und
open L2.KS SX
open PySem.W (findIn keepIn typeIn subIn nsIn codeIn)
/-! ### Table.__init__ as the head writes it; the law from its last lemma -/
section
variable {K : PySem.W.Frag} {fI T e0 : Addr} {oc tc kV doc pm cdv ct : Value} {od an td : Option Addr} {osl tsl : Array (Option Value)} {n : Nat}
abbrev fdTab (T : Addr) (kV doc pm : Value) (an : Option Addr) (cdv ct : Value) : FuncData := PySem.W.fnOf "__init__" "Table.__init__" (defArgs sTabIni) (defBody sTabIni) (defScope sTabIni) (.ref T) kV doc pm an cdv ct
theorem mkFI (l : K.lookup fI = some ⟨oc, od, .func (fdTab T kV doc pm an cdv ct), osl⟩) (lT : K.lookup T = some ⟨tc, td, .seq #[.ref e0] n, tsl⟩) (cc : codeIn K cdv "Table.__init__" = true) (k : keepIn K (.ref fI) = true) :
    FunD K "__init__" "Table.__init__" (defArgs sTabIni) (defBody sTabIni) (defScope sTabIni) [.ref e0] [] fI (fdTab T kV doc pm an cdv ct) :=
  ⟨⟨oc, od, _, _, _, _, _, _, _, osl, rfl, l, cc, .inr ⟨by simp, T, _, [.ref e0], n, rfl, lT, rfl, .cons rfl .nil⟩, .inl rfl⟩, k⟩
theorem bindFI {fd : FuncData} (F : FunD K "__init__" "Table.__init__" (defArgs sTabIni) (defBody sTabIni) (defScope sTabIni) [.ref e0] [] fI fd) : Binds K fd ["self", "kinds", "pairs"] [] := by
  obtain ⟨ds, r, b⟩ := F.binds1 (ps := ["self", "kinds", "pairs"]) 3 1 (by simp) rfl fun T kV doc pm an cdv ct us its h1 h2 => match us, its, h1, h2 with
    | [_, _, _], [_], _, _ => ⟨_, rfl, rfl⟩
  cases r
  exact b
end
theorem walkL {l : PySem.W.OpenLaw} {q : Program} {loose : List Str} {XP : (Str → Option Value) → Heap → Prop} {YP : World → Heap → Prop} {d : DefRec} {K : Params → PySem.W.Frag} (hn : l.most = some 63) (hdf : d.params.defaults = [])
    (hY : ∀ (w : World) (h : Heap), YP w h → (K w.params).In h)
    (F : ∀ (w : World) (mg : Str → Option Value) (fa : Addr) (h : Heap), (K w.params).In h → h.Ns mainGlobals mg → mg d.name = some (.ref fa) →
      ∃ fd : FuncData, (∀ (s : Shared) (u : Value), BindsTo s fd ⟨[u], []⟩ [("_law_script", u)]) ∧ ∀ base : Heap, (K w.params).In base → base.Ns mainGlobals mg → FnG l.prog w (K w.params) mg base 8 fa fd ["_law_script"] (spLaw (K w.params))) :
    PySem.W.WalkO q loose XP YP l.row.toRowW d [] (fun f vs => PySem.call f vs) :=
  walkG (n := 63) (k := 8) (x := "_law_script") (sp := fun w => spLaw (K w.params)) hn (by decide) hdf ⟨rfl, by decide, by decide⟩ hY F fun _ _ a ns hl _ hS => ⟨a, ns, rfl, hS, hl, fun _ => rfl⟩
end L2.Und
end

section
open PySem PySem.W PyProof.Rows
set_option Elab.async false
set_option maxRecDepth 100000 in
set_option maxHeartbeats 0 in
theorem PySem.Challenge.cw_undoamid_k03_tables_refused_holds : PySem.Challenge.rw_undoamid_k03_tables_refused.Holds := by
  w_on; o_law; k_head; (case hw => w_witness2)
  k_fill
  refine L2.Und.walkL (l := PySem.Challenge.rw_undoamid_k03_tables_refused) rfl rfl (fun w h Y => PySem.W.kIn_of Y) ?F
  case F =>
    intro w mg fa h KX G hmg
    refine' L2.Und.finMk KX G hmg ?gE ?gX ?gT ?eE ?tE ?tX ?no1 ?no2 ?sEX ?iE ?yE ?FE ?hn ?ht ?cC ?n1 ?n2 ?n3 ?n4 ?mM ?mN ?FN (L2.Und.mkFI ?lI ?lT ?cI ?kI) (L2.Und.bindFI (L2.Und.mkFI ?lI ?lT ?cI ?kI)) ?z0 ?z1 ?z2 ?z3 ?z4 ?z5 ?z6 ?z7 ?z8 ?z9 ?z10 ?c1 ?c2 ?F0 ?F1 ?F2 ?F3 ?F4 ?F5 ?F6 ?F7 ?F8 ?F9 ?G0 ?G1 ?G2 ?G3 ?G4 ?b9
    case gE => k_is
    case gX => k_is
    case gT => k_is
    case eE => refine' L2.Und.mkV ⟨by k_is, by k_is, by k_is, by k_is, by k_is, by k_is, by k_is, by k_is, by k_is, by k_is, by first | rfl | k_is⟩ ?eEm; (case eEm => k_is)
    case tE => exact ⟨by k_is, by k_is, by k_is, by k_is, by k_is, by k_is, by k_is, by k_is, by k_is, by k_is, by first | rfl | k_is⟩
    case tX => exact ⟨by k_is, by k_is, by k_is, by k_is, by k_is, by k_is, by k_is, by k_is, by k_is, by k_is, by first | rfl | k_is⟩
    case no1 => k_is
    case no2 => k_is
    case sEX => first | k_is | rfl
    case iE => k_is
    case yE => k_is
    case FE => refine' L2.fun_mk (st := L2.Und.sErrIni) ?el ?ec ?ek; (case el => k_is); (case ec => k_is); (case ek => k_is)
    case hn => k_is
    case ht => k_is
    case cC => exact ⟨by k_is, by k_is, by k_is, by k_is⟩
    case n1 => show _ = _; k_is
    case n2 => show _ = _; k_is
    case n3 => show _ = _; k_is
    case n4 => show _ = _; k_is
    case mM => exact ⟨by k_is, by k_is, by k_is, by k_is⟩
    case mN => exact ⟨by k_is, by k_is, by k_is⟩
    case FN => refine' L2.fun_mk (st := L2.Und.sTabNF) ?ml ?mc ?mk; (case ml => k_is); (case mc => k_is); (case mk => k_is)
    case lI => k_is
    case lT => k_is
    case cI => k_is
    case kI => k_is
    case z0 => k_is
    case z1 => k_is
    case z2 => k_is
    case z3 => k_is
    case z4 => k_is
    case z5 => k_is
    case z6 => k_is
    case z7 => k_is
    case z8 => k_is
    case z9 => k_is
    case z10 => k_is
    case c1 => k_is
    case c2 => k_is
    case F0 => refine' L2.Und.mkF ?da ?dl ?dc ?dk; (case da => k_is); (case dl => k_is); (case dc => k_is); (case dk => k_is)
    case F1 => refine' L2.Und.mkF ?da ?dl ?dc ?dk; (case da => k_is); (case dl => k_is); (case dc => k_is); (case dk => k_is)
    case F2 => refine' L2.Und.mkF ?da ?dl ?dc ?dk; (case da => k_is); (case dl => k_is); (case dc => k_is); (case dk => k_is)
    case F3 => refine' L2.Und.mkF ?da ?dl ?dc ?dk; (case da => k_is); (case dl => k_is); (case dc => k_is); (case dk => k_is)
    case F4 => refine' L2.Und.mkF ?da ?dl ?dc ?dk; (case da => k_is); (case dl => k_is); (case dc => k_is); (case dk => k_is)
    case F5 => refine' L2.Und.mkF ?da ?dl ?dc ?dk; (case da => k_is); (case dl => k_is); (case dc => k_is); (case dk => k_is)
    case F6 => refine' L2.Und.mkF ?da ?dl ?dc ?dk; (case da => k_is); (case dl => k_is); (case dc => k_is); (case dk => k_is)
    case F7 => refine' L2.Und.mkF ?da ?dl ?dc ?dk; (case da => k_is); (case dl => k_is); (case dc => k_is); (case dk => k_is)
    case F8 => refine' L2.Und.mkF ?da ?dl ?dc ?dk; (case da => k_is); (case dl => k_is); (case dc => k_is); (case dk => k_is)
    case F9 => refine' L2.Und.mkF ?da ?dl ?dc ?dk; (case da => k_is); (case dl => k_is); (case dc => k_is); (case dk => k_is)
    case G0 => refine' L2.Und.mkF ?da ?dl ?dc ?dk; (case da => k_is); (case dl => k_is); (case dc => k_is); (case dk => k_is)
    case G1 => refine' L2.Und.mkF ?da ?dl ?dc ?dk; (case da => k_is); (case dl => k_is); (case dc => k_is); (case dk => k_is)
    case G2 => refine' L2.Und.mkF ?da ?dl ?dc ?dk; (case da => k_is); (case dl => k_is); (case dc => k_is); (case dk => k_is)
    case G3 => refine' L2.Und.mkF ?da ?dl ?dc ?dk; (case da => k_is); (case dl => k_is); (case dc => k_is); (case dk => k_is)
    case G4 => refine' L2.Und.mkF ?da ?dl ?dc ?dk; (case da => k_is); (case dl => k_is); (case dc => k_is); (case dk => k_is)
    case b9 => exact fun s v => .of_eq rfl
#print axioms PySem.Challenge.cw_undoamid_k03_tables_refused_holds
end
