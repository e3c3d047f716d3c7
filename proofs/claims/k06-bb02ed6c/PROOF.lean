import PyProof.Rows.All
import Wide.All
import OpenK.AllK
import Wide.FinOn
import HandS.ForMost
import HandS.Defaults
import HandS.EndBits
import HandS.EndOwn
import HandS.EndTab
import HandS.Lambda
import HandS.IsInst
import HandS.TupAny
import HandS.TupMul
import HandS.Strs
import HandS.SetFor
import HandS.Zip
import KE.KRevSl
import HandS.Style
import KE.KExcIs
import PyProof.ReprRoads
import HandS.ForExc
import HandS.ExcInit
import HandS.ExcValue
import HandS.ExcField
import PyProof.ReprLen
import KE.GoesEnum
import PyProof.EnumMake
import PyProof.Draws
import HandS.Iter
import HandS.Walk
import HandS.ExcIs
import HandS.SortOrd
import HandS.SortRule
import HandS.NamedTupSort
import HandS.SortInts
import KE.KSortTupAny
import HandS.Zip0
import PyProof.SumWalk
import PyProof.SumAny
import PyProof.ListOps
import HandS.List
import KE.KStateDown
import HandS.Codes
import HandS.Conv
import HandS.HeadHook1
import HandS.DeepEq
import HandS.TryOnly
import HandS.TupLe
import HandS.Head0
import HandS.Head1
import HandS.Head2
import HandS.HeadHook2
import HandS.HeadHook3
import HandS.HeadHook4
import PySem.Challenge.RW_sparetrees_k06_whole_trees_packings_and
set_option Elab.async false
set_option linter.all false
set_option maxRecDepth 100000
set_option maxHeartbeats 0
namespace Kv
open PySem PySem.Spec PyProof.Rows L2

/-- the five items of the drawer's list -/
def five (c : Addr) (i d s t : Int) : List V := [.ref c, .int i, .int d, .int s, .int t]
/-- the drawer's list at a, over the cells at c; where it stands is left open -/
def drw (a c : Addr) : HO := .ext fun h => ∃ (i d s t : Int) (its : List Value) (k : Nat), 0 ≤ i ∧ Vals (five c i d s t) its ∧ h.get? a = some { cls := .type "list", data := .seq its.toArray k }

theorem drw_at {P : Program} {w : World} {H : Hp} {h : Heap} {a c : Addr} (x : ObjOk P w H h a (drw a c)) :
    ∃ (i d s t : Int) (its : List Value) (k : Nat), 0 ≤ i ∧ Vals (five c i d s t) its ∧ h.get? a = some { cls := .type "list", data := .seq its.toArray k } := x.1
theorem drw_ok {P : Program} {w : World} {H : Hp} {h : Heap} {a c : Addr} {i d s t : Int} (hi : 0 ≤ i) (x : ObjOk P w H h a (.lst (five c i d s t))) {H' : Hp} : ObjOk P w H' h a (drw a c) := by
  obtain ⟨_, its, n, r, e⟩ := x
  refine ⟨⟨i, d, s, t, its, n, hi, r, e⟩, ⟨_, e⟩, fun h1 h2 z q => ?_⟩
  obtain ⟨i, d, s, t, its, n, hi, r, e⟩ := z
  exact ⟨i, d, s, t, its, n, hi, r, q _ e⟩
theorem drw_own {a c x : Addr} : drw a c ≠ .own x := fun z => by
  have z' : HO.ext _ = HO.own x := z
  cases z'
theorem drw_tup {a c : Addr} {xs : List V} : drw a c ≠ .tup xs := fun z => by
  have z' : HO.ext _ = HO.tup xs := z
  cases z'
theorem drw_frz {a c : Addr} {o : Obj} {u : HO} : drw a c ≠ .frz o u := fun z => by
  have z' : HO.ext _ = HO.frz o u := z
  cases z'
theorem drw_tbl {a c : Addr} {ps : Array Value} : drw a c ≠ .tbl ps := fun z => by
  have z' : HO.ext _ = HO.tbl ps := z
  cases z'
theorem drw_lst {a c : Addr} {xs : List V} : drw a c ≠ .lst xs := fun z => by
  have z' : HO.ext _ = HO.lst xs := z
  cases z'
/-- two descriptions of one heap that part at a alone -/
theorem hok_swap {P : Program} {w : World} {H H' : Hp} {h : Heap} {a : Addr} {o : HO} (hok : HOk P w H h) (he : ∀ b, b ≠ a → H' b = H b) (hn : ∀ u, H a = some u → (∀ x, u ≠ .own x) ∧ ∀ xs, u ≠ .tup xs) (ha : H' a = some o) (new : ObjOk P w H' h a o) : HOk P w H' h := fun b u e => by
  by_cases hb : b = a
  · rw [hb] at e ⊢
    rw [ha] at e
    cases e
    exact new
  · have e1 : H b = some u := by rw [← he b hb]; exact e
    have na : ∀ c x, H c = some (.own x) → c ≠ a := fun c x q z => by rw [z] at q; exact (hn _ q).1 x rfl
    have nt : ∀ c xs, H c = some (.tup xs) → c ≠ a := fun c xs q z => by rw [z] at q; exact (hn _ q).2 xs rfl
    exact (hok b u e1).stay (fun _ _ _ q => q) (fun c q => by rw [he c (na c _ q)]; exact q) fun c xs q => by rw [he c (nt c xs q)]; exact q

/-- a def that is proved with the drawer's list laid open keeps the promise in which it is shut -/
theorem shut {P : Program} {w : World} {K : PySem.W.Frag} {mg : Str → Option Value} {base : Heap} {k : Nat} {f : Addr} {fd : FuncData} {ps : List Str} {sp spC : Sp} (F : FnOk P w K mg base CX0 k f fd ps spC)
    (hl : ∀ vs H Q E, sp vs H Q E → vs.length = ps.length)
    (h2 : ∀ vs H Q E, sp vs H Q E → ∃ a c, H a = some (drw a c) ∧ ∀ i d s t, 0 ≤ i → spC vs (upd H a (.lst (five c i d s t)))
      (fun v H' => ∃ H0 i' d' s' t', 0 ≤ i' ∧ H' = upd H0 a (.lst (five c i' d' s' t')) ∧ H0 a = some (drw a c) ∧ Q v H0) E) : FnOk P w K mg base CX0 k f fd ps sp := by
  refine ⟨hl, fun A outer s H args us vs Q E hr e0 hb hv hsp => ?_⟩
  obtain ⟨a, c, ha, hC⟩ := h2 vs H Q E hsp
  obtain ⟨i, d, sd, t, its, n, hi, rv, hget⟩ := drw_at (e0.hok a _ ha)
  have hne : ∀ b, b ≠ a → upd H a (.lst (five c i d sd t)) b = H b := fun b hb => upd_ne hb
  have hna : ∀ b, H b = none → b ≠ a := fun b e z => by rw [z, ha] at e; cases e
  have new : ObjOk P w (upd H a (.lst (five c i d sd t))) s.heap a (.lst (five c i d sd t)) := ⟨by show 5 ≤ sizeLine; decide, its, n, rv, hget⟩
  have hokC : HOk P w (upd H a (.lst (five c i d sd t))) s.heap := hok_swap e0.hok hne (fun u e => by rw [ha] at e; cases e; exact ⟨fun x => drw_own, fun xs => drw_tup⟩) upd_same new
  have eC : Env0 P w K mg base A outer s (upd H a (.lst (five c i d sd t))) := ⟨e0.frames, e0.mod, fun b o e => ⟨(e0.bs b o e).1, by rw [hne b (hna b (e0.bs b o e).2)]; exact (e0.bs b o e).2⟩, e0.bsz, e0.funs, fun b hb => by rw [hne b (hna b (e0.frf b hb))]; exact e0.frf b hb, hokC, e0.bare⟩
  refine codeAny_mono (F.run A outer s _ args us vs _ E hr eC hb hv (hC i d sd t hi)) fun r s' q => ?_
  cases r with
  | error e => exact q
  | ok fl =>
    cases fl with
    | next => exact q
    | brk => exact q
    | cont => exact q
    | ret u =>
      obtain ⟨v, H', os, bare, un, hok', rv', H0, i', d', s1, t', hi', eH, h0, hQ⟩ := q
      subst eH
      have hne2 : ∀ b, b ≠ a → H0 b = upd H0 a (.lst (five c i' d' s1 t')) b := fun b hb => (upd_ne hb).symm
      have up : ∀ {b : Addr}, H b = none → upd H a (.lst (five c i d sd t)) b = none := fun {b} e => by rw [hne b (hna b e)]; exact e
      refine ⟨v, H0, os, bare, ⟨fun b o e n hb hx => un.keep b o e (up n) hb hx, fun b o e n hb hx => un.slot b o e (up n) hb hx, fun b o e n hx => ?_, fun b o e hx => un.there b o e hx, fun b xs e => ?_, fun b o u e => ?_, fun b ps e => ?_⟩, ?_, rv', hQ⟩
      · rw [hne2 b (hna b n)]
        exact un.free b o e (up n) hx
      · have hb : b ≠ a := fun z => by rw [z, ha] at e; exact drw_tup (Option.some.inj e)
        rw [hne2 b hb]
        exact un.tups b xs (by rw [hne b hb]; exact e)
      · have hb : b ≠ a := fun z => by rw [z, ha] at e; exact drw_frz (Option.some.inj e)
        rw [hne2 b hb]
        exact un.frzs b o u (by rw [hne b hb]; exact e)
      · have hb : b ≠ a := fun z => by rw [z, ha] at e; exact drw_tbl (Option.some.inj e)
        rw [hne2 b hb]
        exact un.tbls b ps (by rw [hne b hb]; exact e)
      · exact hok_swap hok' hne2 (fun u e => by rw [upd_same] at e; cases e; exact ⟨fun x z => (nomatch z), fun xs z => (nomatch z)⟩) h0 (drw_ok hi' (hok' a _ upd_same))

/-- a def that hands back a new drawer, laid open -/
theorem shutNew {P : Program} {w : World} {K : PySem.W.Frag} {mg : Str → Option Value} {base : Heap} {k : Nat} {f : Addr} {fd : FuncData} {ps : List Str} {sp spC : Sp} (F : FnOk P w K mg base CX0 k f fd ps spC)
    (hl : ∀ vs H Q E, sp vs H Q E → vs.length = ps.length)
    (h2 : ∀ vs H Q E, sp vs H Q E → spC vs H (fun v H2 => ∃ p c i d s t, 0 ≤ i ∧ H2 p = some (.lst (five c i d s t)) ∧ Q v (upd H2 p (drw p c))) E) : FnOk P w K mg base CX0 k f fd ps sp := by
  refine ⟨hl, fun A outer s H args us vs Q E hr e0 hb hv hsp => ?_⟩
  refine codeAny_mono (F.run A outer s H args us vs _ E hr e0 hb hv (h2 vs H Q E hsp)) fun r s2 q => ?_
  rcases r with e | (_ | _ | _ | u)
  · exact q
  · exact q
  · exact q
  · exact q
  · obtain ⟨v, H2, os, bare, un, hok, rv, p, c, i, d, t, t2, hi, hp, hQ⟩ := q
    have other : ∀ b, H2 b = none → upd H2 p (drw p c) b = none := fun b e => by rw [upd_ne (fun z => by rw [z, hp] at e; cases e)]; exact e
    have ne : ∀ b, b ≠ p → upd H2 p (drw p c) b = H2 b := fun b hb => upd_ne hb
    refine ⟨v, _, os, bare, ⟨un.keep, un.slot, fun b o e n hx => other b (un.free b o e n hx), un.there, fun b xs e => ?_, fun b o u e => ?_, fun b ps e => ?_⟩, ?_, rv, hQ⟩
    · have y := un.tups b xs e
      rw [ne b (fun z => by rw [z, hp] at y; cases y)]
      exact y
    · have y := un.frzs b o u e
      rw [ne b (fun z => by rw [z, hp] at y; cases y)]
      exact y
    · obtain ⟨m, y⟩ := un.tbls b ps e
      exact ⟨m, by rw [ne b (fun z => by rw [z, hp] at y; cases y)]; exact y⟩
    · exact hok_swap hok ne (fun u e => by rw [hp] at e; cases e; exact ⟨fun x z => (nomatch z), fun xs z => (nomatch z)⟩) upd_same (drw_ok hi (hok p _ hp))
end Kv
namespace Kv
open PySem PySem.Spec PyProof.Rows L2

/-- at a: a list of which Z holds; what it holds is left open -/
def drz (a : Addr) (Z : List V → Prop) : HO := .ext fun h => ∃ (xs : List V) (its : List Value) (k : Nat), (Z xs ∧ xs.length ≤ sizeLine) ∧ Vals xs its ∧ h.get? a = some { cls := .type "list", data := .seq its.toArray k }
section
variable {a : Addr} {Z : List V → Prop}
theorem drz_at {P : Program} {w : World} {H : Hp} {h : Heap} (x : ObjOk P w H h a (drz a Z)) :
    ∃ (xs : List V) (its : List Value) (k : Nat), (Z xs ∧ xs.length ≤ sizeLine) ∧ Vals xs its ∧ h.get? a = some { cls := .type "list", data := .seq its.toArray k } := x.1
theorem drz_ok {P : Program} {w : World} {H : Hp} {h : Heap} {xs : List V} (hz : Z xs) (x : ObjOk P w H h a (.lst xs)) {H' : Hp} : ObjOk P w H' h a (drz a Z) := by
  obtain ⟨hl, its, n, r, e⟩ := x
  refine ⟨⟨xs, its, n, ⟨hz, hl⟩, r, e⟩, ⟨_, e⟩, fun h1 h2 z q => ?_⟩
  obtain ⟨ys, is2, n2, hy, r2, e2⟩ := z
  exact ⟨ys, is2, n2, hy, r2, q _ e2⟩
theorem drz_own {x : Addr} : drz a Z ≠ .own x := fun z => by
  have z' : HO.ext _ = HO.own x := z
  cases z'
theorem drz_tup {xs : List V} : drz a Z ≠ .tup xs := fun z => by
  have z' : HO.ext _ = HO.tup xs := z
  cases z'
theorem drz_frz {o : Obj} {u : HO} : drz a Z ≠ .frz o u := fun z => by
  have z' : HO.ext _ = HO.frz o u := z
  cases z'
theorem drz_tbl {ps : Array Value} : drz a Z ≠ .tbl ps := fun z => by
  have z' : HO.ext _ = HO.tbl ps := z
  cases z'
theorem drz_lst {xs : List V} : drz a Z ≠ .lst xs := fun z => by
  have z' : HO.ext _ = HO.lst xs := z
  cases z'
end
/-- a def that is proved with that list laid open keeps the promise in which it is shut -/
theorem shutZ {P : Program} {w : World} {K : PySem.W.Frag} {mg : Str → Option Value} {base : Heap} {k : Nat} {f : Addr} {fd : FuncData} {ps : List Str} {sp spC : Sp} (F : FnOk P w K mg base CX0 k f fd ps spC)
    (hl : ∀ vs H Q E, sp vs H Q E → vs.length = ps.length)
    (h2 : ∀ vs H Q E, sp vs H Q E → ∃ a Z, H a = some (drz a Z) ∧ ∀ xs, Z xs → spC vs (upd H a (.lst xs))
      (fun v H' => ∃ H0 ys, Z ys ∧ H' = upd H0 a (.lst ys) ∧ H0 a = some (drz a Z) ∧ Q v H0) E) : FnOk P w K mg base CX0 k f fd ps sp := by
  refine ⟨hl, fun A outer s H args us vs Q E hr e0 hb hv hsp => ?_⟩
  obtain ⟨a, Z, ha, hC⟩ := h2 vs H Q E hsp
  obtain ⟨xs, its, n, ⟨hz, hlen⟩, rv, hget⟩ := drz_at (e0.hok a _ ha)
  have apart : ∀ b, b ≠ a → upd H a (.lst xs) b = H b := fun b hb => upd_ne hb
  have fresh : ∀ b, H b = none → b ≠ a := fun b e z => by rw [z, ha] at e; cases e
  have hokC : HOk P w (upd H a (.lst xs)) s.heap := hok_swap e0.hok apart (fun u e => by rw [ha] at e; cases e; exact ⟨fun x => drz_own, fun xs => drz_tup⟩) upd_same ⟨hlen, its, n, rv, hget⟩
  have eC : Env0 P w K mg base A outer s (upd H a (.lst xs)) := ⟨e0.frames, e0.mod, fun b o e => ⟨(e0.bs b o e).1, by rw [apart b (fresh b (e0.bs b o e).2)]; exact (e0.bs b o e).2⟩, e0.bsz, e0.funs, fun b hb => by rw [apart b (fresh b (e0.frf b hb))]; exact e0.frf b hb, hokC, e0.bare⟩
  refine codeAny_mono (F.run A outer s _ args us vs _ E hr eC hb hv (hC xs hz)) fun r s2 q => ?_
  rcases r with e | (_ | _ | _ | u)
  · exact q
  · exact q
  · exact q
  · exact q
  · obtain ⟨v, H', os, bare, un, hok2, rv2, H0, ys, hz2, eH, h0, hQ⟩ := q
    subst eH
    have apart2 : ∀ b, b ≠ a → H0 b = upd H0 a (.lst ys) b := fun b hb => (upd_ne hb).symm
    have free : ∀ {b : Addr}, H b = none → upd H a (.lst xs) b = none := fun {b} e => by rw [apart b (fresh b e)]; exact e
    refine ⟨v, H0, os, bare, ⟨fun b o e n hb hx => un.keep b o e (free n) hb hx, fun b o e n hb hx => un.slot b o e (free n) hb hx, fun b o e n hx => ?_, fun b o e hx => un.there b o e hx, fun b zs e => ?_, fun b o u e => ?_, fun b ps e => ?_⟩, ?_, rv2, hQ⟩
    · rw [apart2 b (fresh b n)]
      exact un.free b o e (free n) hx
    · have hb : b ≠ a := fun z => by rw [z, ha] at e; exact drz_tup (Option.some.inj e)
      rw [apart2 b hb]
      exact un.tups b zs (by rw [apart b hb]; exact e)
    · have hb : b ≠ a := fun z => by rw [z, ha] at e; exact drz_frz (Option.some.inj e)
      rw [apart2 b hb]
      exact un.frzs b o u (by rw [apart b hb]; exact e)
    · have hb : b ≠ a := fun z => by rw [z, ha] at e; exact drz_tbl (Option.some.inj e)
      rw [apart2 b hb]
      exact un.tbls b ps (by rw [apart b hb]; exact e)
    · exact hok_swap hok2 apart2 (fun u e => by rw [upd_same] at e; cases e; exact ⟨fun x z => (nomatch z), fun xs z => (nomatch z)⟩) h0 (drz_ok hz2 (hok2 a _ upd_same))
/-- a def that hands back such a list, new, laid open -/
theorem shutZNew {P : Program} {w : World} {K : PySem.W.Frag} {mg : Str → Option Value} {base : Heap} {k : Nat} {f : Addr} {fd : FuncData} {ps : List Str} {sp spC : Sp} (F : FnOk P w K mg base CX0 k f fd ps spC)
    (hl : ∀ vs H Q E, sp vs H Q E → vs.length = ps.length)
    (h2 : ∀ vs H Q E, sp vs H Q E → spC vs H (fun v H2 => ∃ p Z xs, Z xs ∧ H2 p = some (.lst xs) ∧ Q v (upd H2 p (drz p Z))) E) : FnOk P w K mg base CX0 k f fd ps sp := by
  refine ⟨hl, fun A outer s H args us vs Q E hr e0 hb hv hsp => ?_⟩
  refine codeAny_mono (F.run A outer s H args us vs _ E hr e0 hb hv (h2 vs H Q E hsp)) fun r s2 q => ?_
  rcases r with e | (_ | _ | _ | u)
  · exact q
  · exact q
  · exact q
  · exact q
  · obtain ⟨v, H2, os, bare, un, hok, rv, p, Z, xs, hz, hp, hQ⟩ := q
    have stay : ∀ b, H2 b = none → upd H2 p (drz p Z) b = none := fun b e => by rw [upd_ne (fun z => by rw [z, hp] at e; cases e)]; exact e
    have apart : ∀ b, b ≠ p → upd H2 p (drz p Z) b = H2 b := fun b hb => upd_ne hb
    refine ⟨v, _, os, bare, ⟨un.keep, un.slot, fun b o e n hx => stay b (un.free b o e n hx), un.there, fun b zs e => ?_, fun b o u e => ?_, fun b ps e => ?_⟩, ?_, rv, hQ⟩
    · have y := un.tups b zs e
      rw [apart b (fun z => by rw [z, hp] at y; cases y)]
      exact y
    · have y := un.frzs b o u e
      rw [apart b (fun z => by rw [z, hp] at y; cases y)]
      exact y
    · obtain ⟨m, y⟩ := un.tbls b ps e
      exact ⟨m, by rw [apart b (fun z => by rw [z, hp] at y; cases y)]; exact y⟩
    · exact hok_swap hok apart (fun u e => by rw [hp] at e; cases e; exact ⟨fun x z => (nomatch z), fun xs z => (nomatch z)⟩) upd_same (drz_ok hz (hok p _ hp))
end Kv
namespace Kv
open PySem PySem.Spec PyProof.Rows L2

/-- a def's promise, kept where no text of a list or tuple is being made around the call -/
structure FnG (P : Program) (w : World) (K : PySem.W.Frag) (mg : Str → Option Value) (base : Heap) (k : Nat) (f : Addr) (fd : FuncData) (ps : List Str) (sp : Sp) : Prop where
  len : ∀ vs H Q E, sp vs H Q E → vs.length = ps.length
  run : ∀ (A : Around) (out : List Env) (s : Shared) (H : Hp) (ag : Args) (us : List Value) (vs : List V) (Q : VK) (E : XK), A.guards = some [] → Room k A → Env0 P w K mg base A out s H → BindsTo s fd ag (ps.zip us) → Vals vs us → sp vs H Q E →
    codeAny (model P w) A (.call (.ref f) ag) (CR CX0 out P w H s Q E) s
section
variable {P : Program} {w : World} {K : PySem.W.Frag} {mg : Str → Option Value} {base : Heap} {k : Nat} {f : Addr} {fd : FuncData} {ps : List Str} {sp : Sp}
theorem FnG.of (F : FnOk P w K mg base CX0 k f fd ps sp) : FnG P w K mg base k f fd ps sp := ⟨F.len, fun A out s H ag us vs Q E _ => F.run A out s H ag us vs Q E⟩

/-- the body's context at its entry -/
abbrev cxG (P : Program) (w : World) (K : PySem.W.Frag) (mg : Str → Option Value) (base : Heap) (N : List Str) (qual : Str) (sc : Scope) (f : Addr) (cd : Value) (A : Around) (out : List Env) (s : Shared) (H : Hp) (E : XK) : Cx := (cxOf CX0 P w K mg base N qual sc f cd A out s H E).nox
/-- a def by its body, where no repr is under way -/
theorem okG {x qual : Str} {ar : Arguments} {body : List Stmt} {sc : Scope} {dvs : List V} {kws : List (Str × V)} {N : List Str} (F : FunD K x qual ar body sc dvs kws f fd) (S : FnScope N ps sc) (len : ∀ vs H Q E, sp vs H Q E → vs.length = ps.length)
    (hb : ∀ (cd : Value) (A : Around) (out : List Env) (s : Shared) (H : Hp) (vs : List V) (Q : VK) (E : XK), A.guards = some [] → Room k (A.deeper (envOfC qual sc s.heap.objs.size f cd)) → sp vs H Q E →
      ∃ t, PSs (cxG P w K mg base N qual sc f cd A out s H E) body t ∧ t { nx := fun _ H1 => Q .non H1, rt := Q } (start N vs) H) : FnG P w K mg base (k + 1) f fd ps sp := by
  refine ⟨len, fun A out s H ag us vs Q E hg hr e0 bd rv hq => ?_⟩
  obtain ⟨oc, od, dV, kV, doc, pm, an, cdv, ct, osl, rfl, lk, hcd, _⟩ := F.ex
  have lenv := len vs H Q E hq
  have inK : K.In s.heap := e0.mod.kin.keeps fun b o z => (e0.bs b o z).1
  have nol : s.heap.NoLimit := e0.mod.nolimit.keeps fun b o z => (e0.bs b o z).1
  have kinds : ∀ y ∈ ps.zip us, sc.names.lookup y.1 = some .local ∨ (sc.names.lookup y.1 = some .cell ∧ ((cellsFrom (s.heap.objs.size + 1) sc.names []).lookup y.1).isSome = true) := by
    rintro ⟨n, v⟩ hy
    rcases S.par n (List.of_mem_zip hy).1 with z | z
    · exact Or.inl z
    · exact Or.inr ⟨z, PySem.W.cellsFrom_some _ _ _ (Or.inl z)⟩
  refine codeAny_call_function hr.depth (inK _ _ lk) rfl S.co S.gen rfl (PySem.W.codeRec_of inK hcd) (bd _ _ _ _ (wpAny_newFunctionEnv_cells S.kind kinds fun env henv s1 x => ?_))
  cases henv
  refine ⟨nol.keeps x.toInCall.keep, codeAny_func ?_⟩
  obtain ⟨t, ht, hw⟩ := hb cdv A out s H vs Q E hg (hr.deeper _) hq
  have I : Inv (cxOf CX0 P w K mg base N qual sc f cdv A out s H E) [] (start N vs) H s1 := inv_start S hr.hd e0 lenv rv x
  refine wpAny_mono (ht.nox.run [] s1 (start N vs) H _ I hw) (fun fl s2 hs => ?_) fun _ _ z => z
  rcases fl with _ | _ | _ | u
  · obtain ⟨σ2, H2, J, q⟩ := hs
    exact ⟨.non, H2, J.os, J.bare, J.base, J.hok, rfl, q⟩
  · obtain ⟨σ2, H2, J, q⟩ := hs
    exact q.elim
  · obtain ⟨σ2, H2, J, q⟩ := hs
    exact q.elim
  · obtain ⟨v, σ2, H2, J, r, q⟩ := hs
    exact ⟨v, H2, J.os, J.bare, J.base, J.hok, r, q⟩
end

section
variable {P : Program} {w : World} {K : PySem.W.Frag} {mg mb : Str → Option Value} {k : Nat} {fa a : Addr} {fd : FuncData} {x : Str} {sp : Sp} {z : Shared} {vs : List Value} {ns : List Int}
/-- the script's object -/
abbrev scrO (vs : List Value) : Obj := { cls := .type "list", data := .seq vs.toArray }
/-- the law's call, over an abstract heap that tracks the script or nothing -/
theorem lawAt (H : Hp) (KX : K.In z.heap) (hns : z.heap.Ns mainGlobals mg) (hbl : z.heap.Ns builtinsNs mb) (hbb : ∀ y : Str, y ≠ "__name__" → mb y = bootBuiltins y) (hlim : z.heap.NoLimit) (hgen : z.gens = #[])
    (ha : z.heap.get? a = some (scrO vs)) (rv : Vals (ns.map V.int) vs) (hlen : ns.length ≤ sizeLine) (hr : Room k callerA)
    (F : ∀ base : Heap, K.In base → base.Ns mainGlobals mg → FnG P w K mg base k fa fd [x] sp) (hbind : ∀ (s : Shared) (u : Value), BindsTo s fd ⟨[u], []⟩ [(x, u)])
    (only : ∀ b u, H b = some u → b = a ∧ u = .frz (scrO vs) (.lst (ns.map V.int))) (noK : ∀ u, H a = some u → K.lookup a = none)
    (hsp : sp [.ref a] H (fun v _ => v = .bl true) fun _ _ _ => False) :
    codeAny (model P w) callerA (.call (.ref fa) ⟨[.ref a], []⟩) (fun r s2 => r = .ok (.ret (.bool true)) ∧ OldK z.heap s2.heap ∧ s2.os = z.os ∧ AllBare s2.gens) z := by
  have hok : HOk P w H z.heap := fun b u q => by
    obtain ⟨rfl, rfl⟩ := only b u q
    exact ⟨ha, by rw [List.length_map]; exact hlen, vs, _, rv, ha⟩
  have free : ∀ {b : Addr} {o : Obj}, z.heap.get? b = some o → (∀ its n, o.data ≠ .seq its n) → H b = none := fun {b o} e nd => by
    cases q : H b with
    | none => rfl
    | some u =>
      obtain ⟨e1, _⟩ := only b u q
      rw [e1, ha] at e
      exact (nd vs.toArray _ (congrArg Obj.data (Option.some.inj e)).symm).elim
  have nsOf : ∀ {b : Addr} {m : Str → Option Value}, z.heap.Ns b m → (hidT z.heap H).Ns b m := by
    rintro b m ⟨o, es, ep, e, hd, r⟩
    exact ⟨o, es, ep, hidT_get e (free e fun its n q => by rw [hd] at q; cases q), hd, r⟩
  have inK : K.In (hidT z.heap H) := fun b o e => hidT_get (KX b o e) (by
    cases q : H b with
    | none => rfl
    | some u =>
      obtain ⟨e1, _⟩ := only b u q
      rw [e1] at e q
      rw [noK u q] at e
      cases e)
  have md : Mod K mg (hidT z.heap H) := by
    obtain ⟨mc, h1, h2⟩ := hlim
    exact ⟨inK, nsOf hns, ⟨mb, nsOf hbl, hbb⟩, mc, nsOf h1, h2⟩
  have none0 : ∀ b : Addr, b ∈ ([] : List Addr) → False := fun b q => nomatch q
  have e0 : Env0 P w K mg (hidT z.heap H) callerA [] z H := ⟨rfl, md, fun b o e => of_hidT e, Nat.le_of_eq (hidT_size _ _), trivial, fun b q => (none0 b q).elim, hok, .of_eq hgen⟩
  refine codeAny_mono ((F _ inK (nsOf hns)).run callerA [] z H ⟨[.ref a], []⟩ [.ref a] [.ref a] _ _ rfl hr e0 (hbind z (.ref a)) (.cons rfl .nil) hsp) fun r s2 q => ?_
  rcases r with e | (_ | _ | _ | u)
  · exact q.elim
  · exact q.elim
  · exact q.elim
  · exact q.elim
  · obtain ⟨v, H2, hos, hbare, un, hok2, rel, ev⟩ := q
    cases ev
    cases rel
    refine ⟨rfl, OldK.of_keep fun b o e => ?_, hos, hbare⟩
    cases q : H b with
    | none => exact un.keep b o e q (fun y => none0 b y) (fun y => none0 b y)
    | some u =>
      obtain ⟨e1, e2⟩ := only b u q
      rw [e2] at q
      obtain ⟨y, _⟩ := hok2 b _ (un.frzs b _ _ q)
      rw [e1] at e y ⊢
      rw [ha] at e
      exact y.trans e
end

/-- the end of a law's row; F: the written part, the function object, the promise -/
theorem walkG {l : PySem.W.OpenLaw} {n k : Nat} {q : Program} {loose : List Str} {XP : (Str → Option Value) → Heap → Prop} {YP : World → Heap → Prop} {d : DefRec} {x : Str}
    (hn : l.most = some n) (hn2 : n ≤ sizeLine) (hdf : d.params.defaults = []) (hr : Room k callerA)
    (F : ∀ (w : World) (mg : Str → Option Value) (fa : Addr) (h : Heap), YP w h → h.Ns mainGlobals mg → mg d.name = some (.ref fa) →
      ∃ (K : PySem.W.Frag) (fd : FuncData) (sp : Sp), K.In h ∧ (∀ (s : Shared) (u : Value), BindsTo s fd ⟨[u], []⟩ [(x, u)]) ∧
        (∀ (H : Hp) (a : Addr) (ns : List Int), ns.length ≤ n → (∀ y ∈ ns, Builtin.Int.intBits y ≤ 1048576) → Only H → SqL K H a (ns.map V.int) → sp [.ref a] H (fun v _ => v = .bl true) fun _ _ _ => False) ∧
        ∀ base : Heap, K.In base → base.Ns mainGlobals mg → FnG l.prog w K mg base k fa fd [x] sp) :
    PySem.W.WalkO q loose XP YP l.row.toRowW d [] (fun f vs => PySem.call f vs) := by
  refine Att.attach_callB hn hdf fun w s0 z mg mb fa o pm cd doc a vs ns G Y _ _ _ hmg hobj hints hlen hbits hg => ?_
  obtain ⟨K, fd, sp, KX, hb, hsp, hF⟩ := F w mg fa _ Y G.T.g hmg
  have rv := vals_ints hints
  have hle : ns.length ≤ sizeLine := Nat.le_trans hlen hn2
  cases hk : K.lookup a with
  | some ob =>
    refine lawAt (fun _ => none) KX G.T.g G.T.b G.T.builtins G.T.nolimit hg hobj rv hle hr hF hb (fun b u y => by cases y) (fun u y => by cases y) (hsp _ a ns hlen hbits (fun _ => Or.inl rfl) (Or.inr ?_))
    have e := KX a ob hk
    rw [hobj] at e
    cases e
    exact ⟨_, vs.toArray, _, hk, rfl, rfl, rfl, by rw [List.size_toArray, hints.length]; exact hle, by simpa using rv⟩
  | none =>
    have at_a : (fun b => if b = a then some (HO.frz (scrO vs) (.lst (ns.map V.int))) else none : Hp) a = some (HO.frz (scrO vs) (.lst (ns.map V.int))) := if_pos rfl
    refine lawAt (fun b => if b = a then some (HO.frz (scrO vs) (.lst (ns.map V.int))) else none) KX G.T.g G.T.b G.T.builtins G.T.nolimit hg hobj rv hle hr hF hb (fun b u y => ?_) (fun u _ => hk)
      (hsp _ a ns hlen hbits (fun b => ?_) (Or.inl (Or.inr ⟨_, at_a⟩)))
    · by_cases e : b = a
      · have y2 := (if_pos e).symm.trans y
        cases y2
        exact ⟨e, rfl⟩
      · have y2 := (if_neg e).symm.trans y
        cases y2
    · by_cases e : b = a
      · exact Or.inr ⟨_, _, if_pos e⟩
      · exact Or.inl (if_neg e)
section
variable {X : Cx} {k : Nat} {f : Addr} {fd : FuncData} {ps : List Str} {sp : Sp} {x : Str} {p pos : Pos} {e : Expr} {es : List Expr} {t : TA}
/-- the call of a def of that kind -/
theorem pe_callFG (F : FnG X.prog X.w X.K X.mg X.base k f fd ps sp) (hgd : X.A.guards = some []) (hr : Room k X.A) (hg : Gl X x) (hm : X.mg x = some (.ref f)) (hk : PySem.W.keepIn X.K (.ref f) = true) (hb : Binds X.K fd ps []) (ha : PA X (e :: es) t)
    (hdb : (x == ("__debug__" : Str)) = false := by decide) (he : starEach (e :: es) X.env = (false, eval e X.env) :: starEach es X.env := by rfl) (hpl : (backTo pos (starEach es X.env)).any (·.1) = false := by rfl) :
    PE X (.Call (.Name x p) (e :: es) [] pos) (tCall sp [] E0 t) := by
  refine ⟨fun pins s σ H Q I h => ?_⟩
  refine wpAny_Call_Name_kw (ld_glob I hg hm ?_ hdb)
  refine PySem.W.callWith_K (h₀ := X.base) I.ok.mod.kin hk (thn (ha.run pos pins s σ H _ I h) fun us s1 z => ?_) he hpl
  obtain ⟨vs, H1, I1, r, q⟩ := z
  refine ⟨I1.kIn, ?_⟩
  show wpAny _ _ (call (.ref f) us) _ _ _
  rw [List.append_nil] at q
  have hl : us.length = ps.length := by rw [← r.length]; exact F.len _ _ _ _ q
  have b := hb s1 us I1.kIn (by rw [List.append_nil]; exact hl)
  rw [List.append_nil] at b
  refine wpAny_call (codeAny_mono (F.run X.A X.stack s1 H1 ⟨us, []⟩ us vs Q E0 hgd hr I1.env0 b r q) fun r2 s' hq => ?_)
  cases r2 with
  | error e => exact hq.elim
  | ok fl =>
    cases fl with
    | ret u => exact I1.after hq
    | next => exact False.elim hq
    | brk => exact False.elim hq
    | cont => exact False.elim hq
end
end Kv
/-! a law's row where lambdas are made: the tables of code objects are tracked -/
namespace Kv
open PySem PySem.Spec PyProof.Rows L2 LamX
section
variable {P : Program} {w : World} {K : PySem.W.Frag} {mg : Str → Option Value} {base : Heap} {k : Nat} {f : Addr} {fd : FuncData} {ps : List Str} {sp : Sp}
/-- okG, with the code that the def's object names -/
theorem okGC {x qual : Str} {ar : Arguments} {body : List Stmt} {sc : Scope} {dvs : List V} {kws : List (Str × V)} {N : List Str} (F : FunD K x qual ar body sc dvs kws f fd) (S : FnScope N ps sc) (len : ∀ vs H Q E, sp vs H Q E → vs.length = ps.length)
    (hb : ∀ (cd : Value) (A : Around) (out : List Env) (s : Shared) (H : Hp) (vs : List V) (Q : VK) (E : XK), fd.code = cd → A.guards = some [] → Room k (A.deeper (envOfC qual sc s.heap.objs.size f cd)) → sp vs H Q E →
      ∃ t, PSs (cxG P w K mg base N qual sc f cd A out s H E) body t ∧ t { nx := fun _ H1 => Q .non H1, rt := Q } (start N vs) H) : FnG P w K mg base (k + 1) f fd ps sp := by
  refine ⟨len, fun A out s H ag us vs Q E hg hr e0 bd rv hq => ?_⟩
  obtain ⟨oc, od, dV, kV, doc, pm, an, cdv, ct, osl, rfl, lk, hcd, _⟩ := F.ex
  have here : K.In s.heap := e0.mod.kin.keeps fun b o z => (e0.bs b o z).1
  have roomy : s.heap.NoLimit := e0.mod.nolimit.keeps fun b o z => (e0.bs b o z).1
  have args : ∀ y ∈ ps.zip us, sc.names.lookup y.1 = some .local ∨ (sc.names.lookup y.1 = some .cell ∧ ((cellsFrom (s.heap.objs.size + 1) sc.names []).lookup y.1).isSome = true) := fun ⟨n, v⟩ hy =>
    (S.par n (List.of_mem_zip hy).1).imp id fun z => ⟨z, PySem.W.cellsFrom_some _ _ _ (Or.inl z)⟩
  refine codeAny_call_function hr.depth (here _ _ lk) rfl S.co S.gen rfl (PySem.W.codeRec_of here hcd) (bd _ _ _ _ (wpAny_newFunctionEnv_cells S.kind args fun env henv s1 x => ?_))
  cases henv
  refine ⟨roomy.keeps x.toInCall.keep, codeAny_func ?_⟩
  obtain ⟨t, ht, hw⟩ := hb cdv A out s H vs Q E rfl hg (hr.deeper _) hq
  refine wpAny_mono (ht.nox.run [] s1 (start N vs) H _ (inv_start S hr.hd e0 (len vs H Q E hq) rv x) hw) (fun fl s2 hs => ?_) fun _ _ z => z
  rcases fl with _ | _ | _ | u
  · obtain ⟨σ2, H2, J, q⟩ := hs
    exact ⟨.non, H2, J.os, J.bare, J.base, J.hok, rfl, q⟩
  · exact hs.choose_spec.choose_spec.2.elim
  · exact hs.choose_spec.choose_spec.2.elim
  · obtain ⟨v, σ2, H2, J, r, q⟩ := hs
    exact ⟨v, H2, J.os, J.bare, J.base, J.hok, r, q⟩
end
section
variable {P : Program} {w : World} {K : PySem.W.Frag} {mg mb : Str → Option Value} {k : Nat} {fa a : Addr} {fd : FuncData} {x : Str} {sp : Sp} {z : Shared} {vs : List Value} {ns : List Int} {cs : List (Addr × Addr)}
/-- an empty table of code objects -/
abbrev tabO : Obj := { cls := .none, data := .fields #[] }
theorem lawAtT (H : Hp) (KX : K.In z.heap) (hns : z.heap.Ns mainGlobals mg) (hbl : z.heap.Ns builtinsNs mb) (hbb : ∀ y : Str, y ≠ "__name__" → mb y = bootBuiltins y) (hlim : z.heap.NoLimit) (hgen : z.gens = #[])
    (hT : ∀ p ∈ cs, z.heap.get? p.2 = some tabO) (hC : ∀ p ∈ cs, PySem.W.CodeHd z.heap p.1 p.2)
    (hbm : ∃ (bm : Addr) (ob : Obj), mg "__builtins__" = some (.ref bm) ∧ bm ≠ builtinsNs ∧ z.heap.get? bm = some ob ∧ ob.cls = .type "module" ∧ ob.dict = some builtinsNs ∧ ob.data = .plain)
    (ha : z.heap.get? a = some (scrO vs)) (rv : Vals (ns.map V.int) vs) (hlen : ns.length ≤ sizeLine) (hr : Room k callerA)
    (F : ∀ base : Heap, K.In base → base.Ns mainGlobals mg → (∀ p ∈ cs, TabB base mg p.1 p.2) → FnG P w K mg base k fa fd [x] sp) (hbind : ∀ (s : Shared) (u : Value), BindsTo s fd ⟨[u], []⟩ [(x, u)])
    (only : ∀ b u, H b = some u → (b = a ∧ u = .frz (scrO vs) (.lst (ns.map V.int))) ∨ ((∃ p ∈ cs, p.2 = b) ∧ u = .tbl #[])) (tabs : ∀ p ∈ cs, H p.2 = some (.tbl #[])) (noK : ∀ b u, H b = some u → K.lookup b = none)
    (hsp : sp [.ref a] H (fun v _ => v = .bl true) fun _ _ _ => False) :
    codeAny (model P w) callerA (.call (.ref fa) ⟨[.ref a], []⟩) (fun r s2 => r = .ok (.ret (.bool true)) ∧ OldK z.heap s2.heap ∧ s2.os = z.os ∧ AllBare s2.gens) z := by
  have hok : HOk P w H z.heap := fun b u q => by
    rcases only b u q with ⟨rfl, rfl⟩ | ⟨⟨p, hp, rfl⟩, rfl⟩
    · exact ⟨ha, by rw [List.length_map]; exact hlen, vs, _, rv, ha⟩
    · exact hT p hp
  have free : ∀ {b : Addr} {o : Obj}, z.heap.get? b = some o → (∀ its n, o.data ≠ .seq its n) → o.data ≠ .fields #[] → H b = none := fun {b o} e n1 n2 => by
    cases q : H b with
    | none => rfl
    | some u =>
      rcases only b u q with ⟨e1, _⟩ | ⟨⟨p, hp, e1⟩, _⟩
      · rw [e1, ha] at e
        exact (n1 vs.toArray _ (congrArg Obj.data (Option.some.inj e)).symm).elim
      · rw [← e1, hT p hp] at e
        exact (n2 (congrArg Obj.data (Option.some.inj e)).symm).elim
  have nsOf : ∀ {b : Addr} {m : Str → Option Value}, z.heap.Ns b m → (hidT z.heap H).Ns b m := by
    rintro b m ⟨o, es, ep, e, hd, r⟩
    exact ⟨o, es, ep, hidT_get e (free e (fun its n q => by rw [hd] at q; cases q) fun q => by rw [hd] at q; cases q), hd, r⟩
  have inK : K.In (hidT z.heap H) := fun b o e => hidT_get (KX b o e) (by
    cases q : H b with
    | none => rfl
    | some u =>
      rw [noK b u q] at e
      cases e)
  have md : Mod K mg (hidT z.heap H) := by
    obtain ⟨mc, h1, h2⟩ := hlim
    exact ⟨inK, nsOf hns, ⟨mb, nsOf hbl, hbb⟩, mc, nsOf h1, h2⟩
  have globT : ∀ p ∈ cs, mainGlobals ≠ p.2 := fun p hp e => by
    obtain ⟨o, es, ep, g, hd, _⟩ := hns
    rw [e, hT p hp] at g
    cases g
    cases hd
  have TB : ∀ p ∈ cs, TabB (hidT z.heap H) mg p.1 p.2 := fun p hp => by
    refine ⟨?_, ?_, globT p hp⟩
    · obtain ⟨o, us, file, tf, flags, tg, inF, text, tt, e1, r1, r2, r3, r4⟩ := hC p hp
      refine ⟨o, us, file, tf, flags, tg, inF, text, tt, hidT_get e1 (free e1 (fun its n q => by rw [r2] at q; cases q) fun q => ?_), r1, r2, r3, r4⟩
      rw [r2] at q
      cases q
      simp at r3
    · obtain ⟨bm, ob, b1, b2, b3, b4, b5, b6⟩ := hbm
      refine ⟨bm, ob, b1, b2, fun q => ?_, fun q => ?_, hidT_get b3 (free b3 (fun its n q => by rw [b6] at q; cases q) fun q => by rw [b6] at q; cases q), b4, b5, b6⟩
      · obtain ⟨o, es, ep, g, hd, _⟩ := hns
        rw [← q, b3] at g
        cases g
        rw [b6] at hd
        cases hd
      · rw [q, hT p hp] at b3
        cases b3
        cases b6
  have none0 : ∀ b : Addr, b ∈ ([] : List Addr) → False := fun b q => nomatch q
  have e0 : Env0 P w K mg (hidT z.heap H) callerA [] z H := ⟨rfl, md, fun b o e => of_hidT e, Nat.le_of_eq (hidT_size _ _), trivial, fun b q => (none0 b q).elim, hok, .of_eq hgen⟩
  refine codeAny_mono ((F _ inK (nsOf hns) TB).run callerA [] z H ⟨[.ref a], []⟩ [.ref a] [.ref a] _ _ rfl hr e0 (hbind z (.ref a)) (.cons rfl .nil) hsp) fun r s2 q => ?_
  rcases r with e | (_ | _ | _ | u)
  · exact q.elim
  · exact q.elim
  · exact q.elim
  · exact q.elim
  · obtain ⟨v, H2, hos, hbare, un, hok2, rel, ev⟩ := q
    cases ev
    cases rel
    have stays : ∀ b o, (∀ p ∈ cs, p.2 ≠ b) → z.heap.get? b = some o → s2.heap.get? b = some o := fun b o nt e => by
      cases q : H b with
      | none => exact un.keep b o e q (fun y => none0 b y) (fun y => none0 b y)
      | some u =>
        rcases only b u q with ⟨e1, e2⟩ | ⟨⟨p, hp, e1⟩, _⟩
        · rw [e2] at q
          obtain ⟨y, _⟩ := hok2 b _ (un.frzs b _ _ q)
          rw [e1] at e y ⊢
          rw [ha] at e
          exact y.trans e
        · exact (nt p hp e1).elim
    have grown : ∀ p ∈ cs, ∃ more : Array Value, s2.heap.get? p.2 = some { cls := .none, data := .fields (#[] ++ more) } := fun p hp => by
      obtain ⟨more, y⟩ := un.tbls p.2 #[] (tabs p hp)
      exact ⟨more, hok2 p.2 _ y⟩
    refine ⟨rfl, ⟨fun b o e => ?_, fun b o e => ?_⟩, hos, hbare⟩
    · by_cases ht : ∃ p ∈ cs, p.2 = b
      · obtain ⟨p, hp, rfl⟩ := ht
        obtain ⟨more, y⟩ := grown p hp
        rw [hT p hp] at e
        cases e
        exact Or.inr (Or.inl ⟨((hC p hp).tab (hT p hp)).isCodeTable, rfl, #[], more, rfl, y⟩)
      · exact Or.inl (stays b o (fun p hp h => ht ⟨p, hp, h⟩) e)
    · by_cases ht : ∃ p ∈ cs, p.2 = b
      · obtain ⟨p, hp, rfl⟩ := ht
        obtain ⟨more, y⟩ := grown p hp
        exact ⟨_, y⟩
      · exact ⟨o, stays b o (fun p hp h => ht ⟨p, hp, h⟩) e⟩
end
/-- the end of a law's row; F: the written part, the function object, the promise, the tables -/
theorem walkGT {l : PySem.W.OpenLaw} {n k : Nat} {q : Program} {loose : List Str} {XP : (Str → Option Value) → Heap → Prop} {YP : World → Heap → Prop} {d : DefRec} {x : Str}
    (hn : l.most = some n) (hn2 : n ≤ sizeLine) (hdf : d.params.defaults = []) (hr : Room k callerA)
    (F : ∀ (w : World) (mg : Str → Option Value) (fa : Addr) (h : Heap), YP w h → h.Ns mainGlobals mg → mg d.name = some (.ref fa) →
      ∃ (K : PySem.W.Frag) (fd : FuncData) (sp : Sp) (cs : List (Addr × Addr)), K.In h ∧ (∀ p ∈ cs, h.get? p.2 = some tabO) ∧ (∀ p ∈ cs, PySem.W.CodeHd h p.1 p.2) ∧ (∀ p ∈ cs, K.lookup p.2 = none) ∧ (∀ (s : Shared) (u : Value), BindsTo s fd ⟨[u], []⟩ [(x, u)]) ∧
        (∀ (H : Hp) (a : Addr) (ns : List Int), ns.length ≤ n → (∀ y ∈ ns, Builtin.Int.intBits y ≤ 1048576) → (∀ p ∈ cs, H p.2 = some (.tbl #[])) → SqL K H a (ns.map V.int) → sp [.ref a] H (fun v _ => v = .bl true) fun _ _ _ => False) ∧
        ∀ base : Heap, K.In base → base.Ns mainGlobals mg → (∀ p ∈ cs, TabB base mg p.1 p.2) → FnG l.prog w K mg base k fa fd [x] sp) :
    PySem.W.WalkO q loose XP YP l.row.toRowW d [] (fun f vs => PySem.call f vs) := by
  refine Att.attach_callB hn hdf fun w s0 z mg mb fa o pm cd doc a vs ns G Y _ _ _ hmg hobj hints hlen hbits hg => ?_
  obtain ⟨K, fd, sp, cs, KX, hT, hC, hno, hb, hsp, hF⟩ := F w mg fa _ Y G.T.g hmg
  have rv := vals_ints hints
  have hle : ns.length ≤ sizeLine := Nat.le_trans hlen hn2
  have notT : ∀ p ∈ cs, p.2 ≠ a := fun p hp e => by
    have y := hT p hp
    rw [e, hobj] at y
    have y2 : Data.seq vs.toArray _ = Data.fields #[] := congrArg Obj.data (Option.some.inj y)
    cases y2
  obtain ⟨tb, htb⟩ : ∃ tb : Addr → Bool, ∀ b, tb b = true ↔ ∃ p ∈ cs, p.2 = b := ⟨fun b => cs.any fun p => p.2 == b, fun b => by simp [List.any_eq_true]⟩
  cases hk : K.lookup a with
  | some ob =>
    refine lawAtT (cs := cs) (fun b => if tb b = true then some (.tbl #[]) else none) KX G.T.g G.T.b G.T.builtins G.T.nolimit hg hT hC G.T.bmain hobj rv hle hr hF hb (fun b u y => ?_) (fun p hp => if_pos ((htb _).mpr ⟨p, hp, rfl⟩)) (fun b u y => ?_)
      (hsp _ a ns hlen hbits (fun p hp => if_pos ((htb _).mpr ⟨p, hp, rfl⟩)) (Or.inr ?_))
    · by_cases e : tb b = true
      · have y2 := (if_pos e).symm.trans y
        cases y2
        exact Or.inr ⟨(htb b).mp e, rfl⟩
      · have y2 := (if_neg e).symm.trans y
        cases y2
    · by_cases e : tb b = true
      · obtain ⟨p, hp, rfl⟩ := (htb b).mp e
        exact hno p hp
      · have y2 := (if_neg e).symm.trans y
        cases y2
    have e := KX a ob hk
    rw [hobj] at e
    cases e
    exact ⟨_, vs.toArray, _, hk, rfl, rfl, rfl, by rw [List.size_toArray, hints.length]; exact hle, by simpa using rv⟩
  | none =>
    have at_a : (fun b => if b = a then some (HO.frz (scrO vs) (.lst (ns.map V.int))) else if tb b = true then some (.tbl #[]) else none : Hp) a = some (HO.frz (scrO vs) (.lst (ns.map V.int))) := if_pos rfl
    have at_t : ∀ p ∈ cs, (fun b => if b = a then some (HO.frz (scrO vs) (.lst (ns.map V.int))) else if tb b = true then some (.tbl #[]) else none : Hp) p.2 = some (.tbl #[]) := fun p hp => (if_neg (notT p hp)).trans (if_pos ((htb _).mpr ⟨p, hp, rfl⟩))
    refine lawAtT (cs := cs) (fun b => if b = a then some (HO.frz (scrO vs) (.lst (ns.map V.int))) else if tb b = true then some (.tbl #[]) else none) KX G.T.g G.T.b G.T.builtins G.T.nolimit hg hT hC G.T.bmain hobj rv hle hr hF hb (fun b u y => ?_) at_t (fun b u y => ?_)
      (hsp _ a ns hlen hbits at_t (Or.inl (Or.inr ⟨_, at_a⟩)))
    · by_cases e : b = a
      · have y2 := (if_pos e).symm.trans y
        cases y2
        exact Or.inl ⟨e, rfl⟩
      · have y1 := (if_neg e).symm.trans y
        by_cases e2 : tb b = true
        · have y2 := (if_pos e2).symm.trans y1
          cases y2
          exact Or.inr ⟨(htb b).mp e2, rfl⟩
        · have y2 := (if_neg e2).symm.trans y1
          cases y2
    · by_cases e : b = a
      · rw [e]
        exact hk
      · have y1 := (if_neg e).symm.trans y
        by_cases e2 : tb b = true
        · obtain ⟨p, hp, rfl⟩ := (htb b).mp e2
          exact hno p hp
        · have y2 := (if_neg e2).symm.trans y1
          cases y2
end Kv
namespace Kv
open PySem PySem.Spec PyProof.Rows L2
/-! ### things: leaves, tuples, lists, dicts of ints -/
/-- pairs of ints, as a dict's -/
def kvI (kvs : List (Int × Int)) : List (Key × V) := kvs.map fun p => (Sum.inl p.1, V.int p.2)
def kvD (kvs : List (Int × Int)) : List (PyData × PyData) := kvs.map fun p => (.int p.1, .int p.2)
mutual
inductive Th (H : Hp) : V → PyData → Prop
  | non : Th H .non .none
  | bl (b : Bool) : Th H (.bl b) (.bool b)
  | int (i : Int) : Th H (.int i) (.int i)
  | str (x : Str) : Th H (.str x) (.str x)
  | lst {a : Addr} {vs : List V} {ds : List PyData} (ha : H a = some (.lst vs)) (h : ThAll H vs ds) : Th H (.ref a) (.list ds)
  | tup {a : Addr} {vs : List V} {ds : List PyData} (ha : H a = some (.tup vs)) (h : ThAll H vs ds) (hl : vs.length ≤ 100) : Th H (.ref a) (.tuple ds)
  | dic {a : Addr} {kvs : List (Int × Int)} (ha : H a = some (.dK (kvI kvs))) (hl : kvs.length ≤ 100) : Th H (.ref a) (.dict (kvD kvs))
inductive ThAll (H : Hp) : List V → List PyData → Prop
  | nil : ThAll H [] []
  | cons {v : V} {d : PyData} {vs : List V} {ds : List PyData} (h : Th H v d) (t : ThAll H vs ds) : ThAll H (v :: vs) (d :: ds)
end
section
variable {H H2 : Hp} {K : PySem.W.Frag}
mutual
theorem Th.keep (e : Same H H2) : ∀ {d : PyData} {v : V}, Th H v d → Th H2 v d
  | .none, _, h => by cases h; exact .non
  | .bool b, _, h => by cases h; exact .bl b
  | .int i, _, h => by cases h; exact .int i
  | .str x, _, h => by cases h; exact .str x
  | .list ds, _, h => by
    cases h with
    | lst ha h => exact .lst (e _ _ ha) (ThAll.keep e h)
  | .tuple ds, _, h => by
    cases h with
    | tup ha h hl => exact .tup (e _ _ ha) (ThAll.keep e h) hl
  | .dict _, _, h => by
    cases h with
    | dic ha hl => exact .dic (e _ _ ha) hl
theorem ThAll.keep (e : Same H H2) : ∀ {ds : List PyData} {vs : List V}, ThAll H vs ds → ThAll H2 vs ds
  | [], _, h => by cases h; exact .nil
  | d :: ds, _, h => by
    cases h with
    | cons h1 h2 => exact .cons (Th.keep e h1) (ThAll.keep e h2)
end
theorem ThAll.length : ∀ {vs : List V} {ds : List PyData}, ThAll H vs ds → vs.length = ds.length
  | _, _, .nil => rfl
  | _, _, .cons _ t => congrArg (· + 1) t.length
theorem ThAll.get : ∀ {vs : List V} {ds : List PyData}, ThAll H vs ds → ∀ {i : Nat} {v : V}, vs[i]? = some v → ∃ d, ds[i]? = some d ∧ Th H v d
  | _, _, .nil, i, v, e => by simp at e
  | _, _, .cons h t, 0, v, e => by
    simp at e
    subst e
    exact ⟨_, rfl, h⟩
  | _, _, .cons h t, i + 1, v, e => by
    simp at e
    obtain ⟨d, h1, h2⟩ := t.get e
    exact ⟨d, by simpa using h1, h2⟩
theorem ThAll.append : ∀ {vs ws : List V} {ds es : List PyData}, ThAll H vs ds → ThAll H ws es → ThAll H (vs ++ ws) (ds ++ es)
  | _, _, _, _, .nil, h => h
  | _, _, _, _, .cons h t, h2 => .cons h (ThAll.append t h2)
theorem ThAll.take : ∀ {vs : List V} {ds : List PyData}, ThAll H vs ds → ∀ n, ThAll H (vs.take n) (ds.take n)
  | _, _, .nil, n => by simp; exact .nil
  | _, _, .cons h t, 0 => .nil
  | _, _, .cons h t, n + 1 => .cons h (t.take n)
theorem ThAll.drop : ∀ {vs : List V} {ds : List PyData}, ThAll H vs ds → ∀ n, ThAll H (vs.drop n) (ds.drop n)
  | _, _, .nil, n => by simp; exact .nil
  | _, _, .cons h t, 0 => .cons h t
  | _, _, .cons h t, n + 1 => t.drop n
/-- the type's name -/
def tyNm : PyData → String
  | .none => "NoneType"
  | .bool _ => "bool"
  | .int _ => "int"
  | .str _ => "str"
  | .list _ => "list"
  | .tuple _ => "tuple"
  | .dict _ => "dict"
theorem Th.tyx {x : V} {d : PyData} (h : Th H x d) : TyX K H x (.type (tyNm d)) := by
  cases h with
  | non => exact .base .non
  | bl b => exact .base (.bl b)
  | int i => exact .base (.int i)
  | str x => exact .base (.str x)
  | lst ha h => exact .base (.lst ha)
  | tup ha h hl => exact .base (.tup ha)
  | dic ha hl => exact .base (.dK ha)
def isInt : PyData → Bool
  | .int _ => true
  | .bool _ => true
  | _ => false
def isBl : PyData → Bool
  | .bool _ => true
  | _ => false
def isTup : PyData → Bool
  | .tuple _ => true
  | _ => false
theorem kit_int (d : PyData) : PySem.W.kitOne K (.type (tyNm d)) (.type "int") = some (isInt d) := by cases d <;> rfl
theorem kit_bool (d : PyData) : PySem.W.kitOne K (.type (tyNm d)) (.type "bool") = some (isBl d) := by cases d <;> rfl
theorem kit_tup (d : PyData) : PySem.W.kitOne K (.type (tyNm d)) (.type "tuple") = some (isTup d) := by cases d <;> rfl
/-- isinstance(x, int), isinstance(x, bool), isinstance(x, tuple) -/
theorem isi_int {x : V} {d : PyData} {Q : VK} (h : Th H x d) (q : Q (.bl (isInt d)) H) : rIsi K [x, .ty "int"] H Q := ⟨x, _, _, _, _, rfl, .ty _, h.tyx, kit_int d, q⟩
theorem isi_bool {x : V} {d : PyData} {Q : VK} (h : Th H x d) (q : Q (.bl (isBl d)) H) : rIsi K [x, .ty "bool"] H Q := ⟨x, _, _, _, _, rfl, .ty _, h.tyx, kit_bool d, q⟩
theorem isi_tup {x : V} {d : PyData} {Q : VK} (h : Th H x d) (q : Q (.bl (isTup d)) H) : rIsi K [x, .ty "tuple"] H Q := ⟨x, _, _, _, _, rfl, .ty _, h.tyx, kit_tup d, q⟩
/-- an integer from lo to hi -/
def isBt (d : PyData) (lo hi : Int) : Bool := match d with
  | .int i => decide (lo ≤ i) && decide (i ≤ hi)
  | _ => false
def neI : PyData → PyData → Bool
  | .int i, .int j => !decide (i = j)
  | _, _ => true
/-- a pair of unlike numbers below m -/
def isPr (d : PyData) (m : Int) : Bool := match d with
  | .tuple [a, b] => isBt a 0 (m - 1) && (isBt b 0 (m - 1) && neI a b)
  | _ => false
/-- the number of the first that is none -/
def firstBad (m : Int) : List PyData → Nat → Option Nat
  | [], _ => none
  | d :: ds, i => if isPr d m = true then firstBad m ds (i + 1) else some i
/-- what is wrong of a net's parts, none if nothing -/
def wrongV (m r l : PyData) : V :=
  if isBt m 2 10 = true then match m with
    | .int mi => if isBt r 0 (mi - 1) = true then match l with
        | .tuple ds => if ds.length > 60 then .str "links" else match firstBad mi ds 0 with
            | some i => .int (i : Int)
            | none => .non
        | _ => .str "links"
      else .str "root"
    | _ => .str "many"
  else .str "many"
section
variable {dx dy dz : PyData} {mi : Int} {ds : List PyData} {i : Nat}
theorem wv_many (h : isBt dx 2 10 = false) : wrongV dx dy dz = .str "many" := if_neg (by rw [h]; decide)
theorem wv_root (h1 : isBt (.int mi) 2 10 = true) (h2 : isBt dy 0 (mi - 1) = false) : wrongV (.int mi) dy dz = .str "root" := (if_pos h1).trans (if_neg (by rw [h2]; decide))
theorem wv_links (h1 : isBt (.int mi) 2 10 = true) (h2 : isBt dy 0 (mi - 1) = true) (h3 : isTup dz = false) : wrongV (.int mi) dy dz = .str "links" := by
  refine (if_pos h1).trans ((if_pos h2).trans ?_)
  cases dz with
  | tuple _ => cases h3
  | _ => rfl
theorem wv_long (h1 : isBt (.int mi) 2 10 = true) (h2 : isBt dy 0 (mi - 1) = true) (h3 : 60 < ds.length) : wrongV (.int mi) dy (.tuple ds) = .str "links" := (if_pos h1).trans ((if_pos h2).trans (if_pos h3))
theorem wv_item (h1 : isBt (.int mi) 2 10 = true) (h2 : isBt dy 0 (mi - 1) = true) (h3 : ¬ 60 < ds.length) (h4 : firstBad mi ds 0 = some i) : wrongV (.int mi) dy (.tuple ds) = .int (i : Int) := by
  refine (if_pos h1).trans ((if_pos h2).trans ((if_neg h3).trans ?_))
  rw [h4]
theorem wv_none (h1 : isBt (.int mi) 2 10 = true) (h2 : isBt dy 0 (mi - 1) = true) (h3 : ¬ 60 < ds.length) (h4 : firstBad mi ds 0 = none) : wrongV (.int mi) dy (.tuple ds) = .non := by
  refine (if_pos h1).trans ((if_pos h2).trans ((if_neg h3).trans ?_))
  rw [h4]
end
theorem isBt_int {d : PyData} {lo hi : Int} (h : isBt d lo hi = true) : ∃ i, d = .int i ∧ lo ≤ i ∧ i ≤ hi := by
  cases d with
  | int i =>
    have e : (decide (lo ≤ i) && decide (i ≤ hi)) = true := h
    rw [Bool.and_eq_true, decide_eq_true_eq, decide_eq_true_eq] at e
    exact ⟨i, rfl, e.1, e.2⟩
  | _ => cases h
theorem firstBad_drop {m : Int} {ds : List PyData} {i : Nat} {d : PyData} (e : firstBad m ds 0 = firstBad m (ds.drop i) i) (hd : ds[i]? = some d) :
    (isPr d m = true → firstBad m ds 0 = firstBad m (ds.drop (i + 1)) (i + 1)) ∧ (isPr d m = false → firstBad m ds 0 = some i) := by
  obtain ⟨hi, e2⟩ := List.getElem?_eq_some_iff.mp hd
  have e3 : ds.drop i = d :: ds.drop (i + 1) := by rw [List.drop_eq_getElem_cons hi, e2]
  rw [e3] at e
  refine ⟨fun h => ?_, fun h => ?_⟩
  · rw [e]
    exact if_pos h
  · rw [e]
    exact if_neg (by rw [h]; decide)
end
end Kv
namespace Kv
open PySem PySem.Spec PyProof.Rows L2
/-! ### readings that give things -/
theorem newS {H : Hp} {p : Addr} {o : HO} (h : H p = none) : Same H (upd H p o) := fun b u e => by
  rw [upd_ne (ne_of_none e h)]
  exact e
/-- whenever it is read behind H, it gives a thing -/
def ThE (te : TE) (σ : L2.St) (H : Hp) : Prop := ∀ H1, Same H H1 → ∀ Q : VK, (∀ v d H2, Same H1 H2 → Th H2 v d → Q v H2) → te σ H1 Q
def ThA (n : Nat) (ta : TA) (σ : L2.St) (H : Hp) : Prop := ∀ H1, Same H H1 → ∀ Q : List V → Hp → Prop, (∀ vs ds H2, Same H1 H2 → ThAll H2 vs ds → vs.length = n → Q vs H2) → ta σ H1 Q
section
variable {σ : L2.St} {H : Hp} {te ta tb : TE} {tr : TA} {n : Nat}
theorem ThE.non : ThE (tC .non) σ H := fun H1 _ Q k => k _ _ H1 (Same.refl _) .non
theorem ThE.bl {b : Bool} : ThE (tC (.bl b)) σ H := fun H1 _ Q k => k _ _ H1 (Same.refl _) (.bl b)
theorem ThE.int {i : Int} : ThE (tC (.int i)) σ H := fun H1 _ Q k => k _ _ H1 (Same.refl _) (.int i)
theorem ThE.str {x : Str} : ThE (tC (.str x)) σ H := fun H1 _ Q k => k _ _ H1 (Same.refl _) (.str x)
theorem ThE.neg {i : Int} : ThE (tUn (rU fun i => .int (-i)) (tC (.int i))) σ H := fun H1 _ Q k => ⟨i, rfl, k _ _ H1 (Same.refl _) (.int (-i))⟩
theorem ThE.pow {i j : Int} (h : CPow i j) : ThE (tOp (rI CPow fun i j => .int (i ^ j.toNat)) (tC (.int i)) (tC (.int j))) σ H := fun H1 _ Q k => ⟨i, j, rfl, rfl, h, k _ _ H1 (Same.refl _) (.int _)⟩
theorem ThE.var {i : Nat} {v : V} {d : PyData} (e : σ[i]? = some (some v)) (h : Th H v d) : ThE (tVar i) σ H := fun H1 s Q k => ⟨v, e, k _ _ H1 (Same.refl _) (h.keep s)⟩
theorem ThE.dic : ThE tDNewK σ H := fun H1 _ Q k p np => k _ _ _ (newS np) (.dic (kvs := []) upd_same (Nat.zero_le _))
theorem ThA.nil : ThA 0 tNil σ H := fun H1 _ Q k => k [] [] H1 (Same.refl _) .nil rfl
theorem ThA.cons (h : ThE te σ H) (t : ThA n tr σ H) : ThA (n + 1) (tCons te tr) σ H := fun H1 s Q k => h H1 s _ fun v d H2 s2 hv => t H2 (s.trans s2) _ fun vs ds H3 s3 hs hn => k (v :: vs) (d :: ds) H3 (s2.trans s3) (.cons (hv.keep s3) hs) (by rw [List.length_cons, hn])
theorem ThE.tup (h : ThA n tr σ H) (hn : n ≤ 100 := by decide) : ThE (tTup tr) σ H := fun H1 s Q k => h H1 s _ fun vs ds H2 s2 hs e => ⟨by rw [e]; exact Nat.le_trans hn (by decide), fun p np => k _ _ _ (s2.trans (newS np)) (.tup upd_same (hs.keep (newS np)) (by rw [e]; exact hn))⟩
theorem ThE.lst (h : ThA n tr σ H) (hn : n ≤ 1000 := by decide) : ThE (tLst tr) σ H := fun H1 s Q k => h H1 s _ fun vs ds H2 s2 hs e => ⟨by rw [e]; exact Nat.le_trans hn (by decide), fun p np => k _ _ _ (s2.trans (newS np)) (.lst upd_same (hs.keep (newS np)))⟩
/-- a new list of n things -/
theorem lstOf {Q : VK} (h : ThA n tr σ H) (hn : n ≤ 1000) (k : ∀ p vs ds H2, H p = none → Same H H2 → H2 p = some (.lst vs) → ThAll H2 vs ds → vs.length = n → Q (.ref p) H2) : tLst tr σ H Q :=
  h H (Same.refl _) _ fun vs ds H2 s2 hs e => ⟨by rw [e]; exact Nat.le_trans hn (by decide), fun p np => k p vs ds _ (s2.free np) (s2.trans (newS np)) upd_same (hs.keep (newS np)) e⟩
theorem tupOf {Q : VK} (h : ThA n tr σ H) (hn : n ≤ 1000) (k : ∀ p vs ds H2, H p = none → Same H H2 → H2 p = some (.tup vs) → ThAll H2 vs ds → vs.length = n → Q (.ref p) H2) : tTup tr σ H Q :=
  h H (Same.refl _) _ fun vs ds H2 s2 hs e => ⟨by rw [e]; exact Nat.le_trans hn (by decide), fun p np => k p vs ds _ (s2.free np) (s2.trans (newS np)) upd_same (hs.keep (newS np)) e⟩
end
/-! ### parts of tuples -/
section
variable {K : PySem.W.Frag} {σ : L2.St} {H : Hp}
theorem cutWhole {xs : List V} {lo hi : Option Int} (h : HT.sIx xs.length 0 lo = 0 ∧ HT.sIx xs.length xs.length hi = xs.length) : cutV xs lo hi = xs := by
  unfold cutV
  rw [h.1, h.2, List.drop_zero, Nat.sub_zero, List.take_length]
theorem cutLen (xs : List V) (n : Nat) : (cutV xs none (some (n : Int))).length ≤ n := by
  unfold cutV
  rw [List.length_take, HT.sIx_nat]
  omega
theorem cutAt (xs : List V) (n : Nat) (h : n < xs.length) (v : V) : ((cutV xs none (some (n : Int)) ++ [v]) ++ cutV xs (some ((n : Int) + 1)) none).length = xs.length := by
  have e : ((n : Int) + 1) = ((n + 1 : Nat) : Int) := rfl
  rw [e]
  unfold cutV
  rw [List.length_append, List.length_append, List.length_take, List.length_take, List.length_drop, List.length_drop, HT.sIx_nat, HT.sIx_nat, HT.sIx_none, HT.sIx_none]
  show min (min n xs.length - 0) (xs.length - 0) + 1 + min (xs.length - min (n + 1) xs.length) (xs.length - min (n + 1) xs.length) = xs.length
  omega
/-- list(t) of a tuple or list in a name -/
theorem ThE.list {i : Nat} {l : Addr} {vs : List V} {ds : List PyData} (e : σ[i]? = some (some (.ref l))) (hl : H l = some (.tup vs)) (hs : ThAll H vs ds) :
    ThE (tCB (fun xs H Q => ∃ p ys, xs = [.ref p] ∧ (SqL K H p ys ∨ SqT K H p ys) ∧ ∀ l, H l = none → Q (.ref l) (upd H l (.lst ys))) (tCons (tVar i) tNil)) σ H := fun H1 s Q k =>
  ⟨_, e, l, vs, rfl, Or.inr (SqT.of (s _ _ hl)), fun q nq => k _ _ _ (newS nq) (.lst upd_same ((hs.keep s).keep (newS nq)))⟩
/-- t[:n] -/
theorem ThE.cut {i n : Nat} {l : Addr} {vs : List V} {ds : List PyData} (e : σ[i]? = some (some (.ref l))) (hl : H l = some (.tup vs)) (hs : ThAll H vs ds) (hn : n ≤ 100) :
    ThE (tSl (rSlA K) (tVar i) tNoPart (tPart (tC (.int (n : Int))))) σ H := fun H1 s Q k => by
  have hc : ThAll H1 (cutV vs none (some (n : Int))) _ := ((hs.keep s).drop _).take _
  refine ⟨_, e, (n : Int), rfl, l, vs, rfl, SqT.of (s _ _ hl), fun h => k _ _ H1 (Same.refl _) (.tup (s _ _ hl) (hs.keep s) ?_), fun _ p np => k _ _ _ (newS np) (.tup upd_same (hc.keep (newS np)) (Nat.le_trans (cutLen vs n) hn))⟩
  have := cutLen vs n
  rw [cutWhole h] at this
  exact Nat.le_trans this hn
end
section
variable {K : PySem.W.Frag} {H : Hp} {Q : VK}
theorem slTup {a : Addr} {xs : List V} {lo hi : Option Int} (ha : H a = some (.tup xs)) (k : ∀ q H2, Same H H2 → H2 q = some (.tup (cutV xs lo hi)) → Q (.ref q) H2) : rSlA K (.ref a) lo hi H Q :=
  ⟨a, xs, rfl, SqT.of ha, fun h => k a H (Same.refl _) (by rw [cutWhole h]; exact ha), fun _ p np => k p _ (newS np) upd_same⟩
theorem catTup {a b : Addr} {xs ys : List V} (ha : H a = some (.tup xs)) (hb : H b = some (.tup ys)) (hl : xs.length + ys.length ≤ 10000) (k : ∀ q H2, Same H H2 → H2 q = some (.tup (xs ++ ys)) → Q (.ref q) H2) : rCatA K (.ref a) (.ref b) H Q := by
  refine ⟨a, b, xs, ys, rfl, rfl, SqT.of ha, SqT.of hb, Nat.le_trans hl (by decide), fun e => ?_, fun _ e => ?_, fun _ _ p np => k p _ (newS np) upd_same⟩
  · subst e
    exact k b H (Same.refl _) hb
  · subst e
    exact k a H (Same.refl _) (by rw [List.append_nil]; exact ha)
theorem ThAll.cut {xs : List V} {ds : List PyData} (h : ThAll H xs ds) (lo hi : Option Int) : ∃ es, ThAll H (cutV xs lo hi) es := ⟨_, (h.drop _).take _⟩
theorem ThAll.rep {xs : List V} {ds : List PyData} (h : ThAll H xs ds) : ∀ n : Nat, ∃ es, ThAll H (List.replicate n xs).flatten es
  | 0 => ⟨[], .nil⟩
  | n + 1 => by
    obtain ⟨es, he⟩ := ThAll.rep h n
    refine ⟨ds ++ es, ?_⟩
    rw [List.replicate_succ, List.flatten_cons]
    exact h.append he
end
end Kv
namespace Kv
open PySem PySem.Spec PyProof.Rows L2

/-- the built-ins -/
structure Bn (mg : Str → Option Value) : Prop where
  len : mg "len" = none
  int : mg "int" = none
  abs : mg "abs" = none
  isi : mg "isinstance" = none
  rng : mg "range" = none
  bool : mg "bool" = none
  lst : mg "list" = none
  tup : mg "tuple" = none
  dct : mg "dict" = none
  all : mg "all" = none
  enm : mg "enumerate" = none
  rep : mg "repr" = none
  max : mg "max" = none
  min : mg "min" = none
  srt : mg "sorted" = none
  set : mg "set" = none
  sum : mg "sum" = none
  zip : mg "zip" = none
abbrev FnP (K : PySem.W.Frag) (x : Str) (st : Stmt) (f : Addr) (fd : FuncData) : Prop := FunD K x x (defArgs st) (defBody st) (defScope st) [] [] f fd
/-- a def of the top, by its name -/
structure DnP (K : PySem.W.Frag) (mg : Str → Option Value) (x : Str) (st : Stmt) (ps : List Str) (f : Addr) (fd : FuncData) : Prop where
  F : FnP K x st f fd
  g : mg x = some (.ref f)
  b : Binds K fd ps []
theorem sameNew {H : Hp} {p : Addr} {o : HO} (h : H p = none) : Same H (upd H p o) := fun b u e => by
  rw [upd_ne (ne_of_none e h)]
  exact e
theorem samePast {H H2 : Hp} {p : Addr} {o : HO} (s : Same H H2) (h : H2 p = none) : Same H (upd H2 p o) := s.trans (sameNew h)
/-- a change of what H does not know -/
theorem samePut {H H2 : Hp} {p : Addr} {o : HO} (s : Same H H2) (h : H p = none) : Same H (upd H2 p o) := fun b u e => by
  rw [upd_ne (ne_of_none e h)]
  exact s b u e
theorem mem_cutV {xs : List V} {lo hi : Option Int} {x : V} (h : x ∈ cutV xs lo hi) : x ∈ xs := List.mem_of_mem_drop (List.mem_of_mem_take h)
def unInt : V → Int
  | .int z => z
  | _ => 0
theorem permInts {ys : List V} {acc : List Int} (h : ys.Perm (acc.map V.int)) : ∃ zs : List Int, ys = zs.map V.int ∧ zs.Perm acc := by
  refine ⟨ys.map unInt, ?_, ?_⟩
  · rw [List.map_map]
    have e : ∀ y ∈ ys, (V.int ∘ unInt) y = y := fun y hy => by
      obtain ⟨z, _, ez⟩ := List.mem_map.mp (h.mem_iff.mp hy)
      rw [← ez]
      rfl
    have e2 : ys.map (V.int ∘ unInt) = ys.map id := List.map_congr_left e
    rw [e2, List.map_id]
  · have h2 := h.map unInt
    rw [List.map_map] at h2
    have e : acc.map (unInt ∘ V.int) = acc.map id := List.map_congr_left fun z _ => rfl
    rw [e, List.map_id] at h2
    exact h2
theorem takeSucc {α : Type} : ∀ (l : List α) {i : Nat} {y : α}, l[i]? = some y → l.take (i + 1) = l.take i ++ [y]
  | [], i, y, h => by simp at h
  | a :: l, 0, y, h => by
    have e : a = y := Option.some.inj h
    rw [e]
    rfl
  | a :: l, i + 1, y, h => congrArg (a :: ·) (takeSucc l (i := i) (y := y) h)
theorem notTake : ∀ {l : List Int} {i : Nat} {z : Int}, l.Nodup → l[i]? = some z → z ∉ l.take i
  | [], _, _, _, h => by simp at h
  | a :: l, 0, _, _, _ => by simp
  | a :: l, i + 1, z, hn, h => by
    have h1 : l[i]? = some z := by simpa using h
    obtain ⟨n1, n2⟩ := List.nodup_cons.mp hn
    rw [List.take_succ_cons]
    intro hz
    rcases List.mem_cons.mp hz with e | hz
    · exact n1 (e ▸ List.mem_of_getElem? h1)
    · exact notTake n2 h1 hz
theorem seqIx {r n : Nat} (h : r < n) : seqIndex? (r : Int) n = some r := by
  have h0 : ¬ ((r : Int) < 0) := by omega
  unfold seqIndex?
  simp [h0, h]
theorem permErase {α : Type} : ∀ {l : List α} {i : Nat} {y : α}, l[i]? = some y → (y :: l.eraseIdx i).Perm l
  | [], i, y, h => by simp at h
  | a :: l, 0, y, h => by
    simp at h
    subst h
    exact List.Perm.refl _
  | a :: l, i + 1, y, h => by
    rw [List.eraseIdx_cons_succ]
    exact (List.Perm.swap a y _).trans ((permErase (l := l) (by simpa using h)).cons a)
theorem sameL {K : PySem.W.Frag} {H H2 : Hp} {a : Addr} {xs : List V} (e : Same H H2) (h : SqL K H a xs) : SqL K H2 a xs := e.seq h
theorem sameT {K : PySem.W.Frag} {H H2 : Hp} {a : Addr} {xs : List V} (e : Same H H2) (h : SqT K H a xs) : SqT K H2 a xs := by
  rcases h with (h | ⟨o, h⟩) | h
  · exact Or.inl (Or.inl (e _ _ h))
  · exact Or.inl (Or.inr ⟨o, e _ _ h⟩)
  · exact Or.inr h
end Kv
/-! set(l), len(set(l)) of a list of ints; t[::-1] of a tuple -/
namespace Kv
open PySem PySem.Spec PyProof.Rows L2
/-- an empty set, as it is made -/
abbrev bareSet (w : World) : Obj := { cls := .type "set", dict := none, data := .set #[] 0 (.fresh 0 0 (!w.params.followText "set-order")) }
section
variable {P : Program} {w : World} {A : Around} {E : Value → Shared → Prop} {s : Shared}
theorem set_of_list {l : Addr} {items : Array Value} {ns : List Int} {R : Value → Shared → Prop} (hh : A.handled = none) (hl : s.heap.IsList l items) (hit : IntsAre items.toList ns) (hb : ns.length + 1 < scanBound)
    (fin : ∀ (g : Heap) (tk c : Nat), SetR w g s.heap.objs.size (fun j => decide (j ∈ ns)) c → c ≤ ns.length → (∀ b o, s.heap.get? b = some o → g.get? b = some o) → R (.ref s.heap.objs.size) { s with heap := g, toks := tk }) :
    wpAny (model P w) A (call (.type "set") [.ref l]) R E s := by
  have many : items.size = ns.length := (Array.length_toList (xs := items)).symm.trans (IntsAre.length hit)
  have C := F.called_set
  obtain ⟨cl, tl, mro⟩ := C.mro
  obtain ⟨made, sub⟩ := And.intro C.made C.sub
  refine wpAny_call (codeAny_of_tree (show wpAny _ _ (callAny (.type "set") _) _ _ _ from wpAny_pure ⟨Code.quiet_builtin _ (by decide +kernel), codeAny_builtin F.entry_type_call ?_⟩))
  rw [Around.under_plain (weight_type_call_type "set" [.ref l] []) rfl]
  obtain ⟨c1, c2, c3⟩ := And.intro C.notType (And.intro C.canCreate (F.typeCall_set_1 (.ref l)))
  repeat (any_goals (first | assumption | wp_step))
  let made1 : Shared := { s with heap := s.heap.push (bareSet w) }
  refine codeAny_mono (code_set_led1 (.ref l) (E := E) (Q₁ := fun u z => u = .ref s.heap.objs.size ∧ z = made1) ⟨rfl, rfl⟩) fun r z hr => ?_
  rcases r with er | (_ | _ | _ | u)
  · exact hr
  · exact hr.elim
  · exact hr.elim
  · exact hr.elim
  obtain ⟨rfl, rfl⟩ := hr
  have at0 : (s.heap.push (bareSet w)).get? s.heap.objs.size = some (bareSet w) := Heap.get?_push_size _ rfl
  have ty0 : Shared.TypeIs made1 (.ref s.heap.objs.size) "set" := ⟨_, at0, rfl⟩
  obtain ⟨il, ib⟩ := And.intro C.init.lookup (C.init.bind (.ref s.heap.objs.size))
  repeat (any_goals (first | assumption | wp_step))
  let done : Value → Shared → Prop := fun r z => r = .none ∧ ∃ g tk c, z = { s with heap := g, toks := tk } ∧ SetR w g s.heap.objs.size (fun j => decide (j ∈ ns)) c ∧ c ≤ ns.length ∧ ∀ b o, s.heap.get? b = some o → g.get? b = some o
  refine codeAny_mono (codeAny_call_builtin (R := wants done E) C.init.plain F.entry_set_init (check_set_init_1 ty0 ?_)) fun r z hr => ?_
  · obtain ⟨⟨oc, od, odt, osl⟩, gl, hc, nl, hd⟩ := hl
    dsimp only at hc hd
    cases hc
    cases hd
    have at1 : (s.heap.push (bareSet w)).get? l = some { cls := .type "list", dict := od, data := .seq items nl, slots := osl } := Heap.get?_push_of_some _ gl
    have is1 : (s.heap.push (bareSet w)).IsList l items := ⟨_, at1, rfl, nl, rfl⟩
    obtain ⟨t1, t2⟩ := And.intro F.sub_list_set F.sub_list_frozenset
    have t3 : (Value.type "list" == Value.type "dict") = false := by decide
    unfold Builtin.«set.__init__» noKeywords Builtin.Frozenset.updateFrom
    generalize hw : pyIter = walkOf
    wp_walk
    subst hw
    refine wpAny_pyIter_list is1 (wpAny_bind (wpAny_runValue ?_))
    have size1 : (s.heap.push (bareSet w)).objs.size = s.heap.objs.size + 1 := Heap.size_push ..
    have lt1 : l < s.heap.objs.size := Heap.lt_size gl
    have apart : l ≠ (s.heap.push (bareSet w)).objs.size := by rw [size1]; exact Nat.ne_of_lt (Nat.lt_succ_of_lt lt1)
    have calm3 : A.in1.in1.in1.handled = none := by simp [hh]
    refine set_update_ints ((Walks.list calm3 _ l apart items).toS) s.heap.objs.size (fun hm => ?_) ns many hb (fun i v hv => ?_) (items.size - 0) 0 _ (by omega) (Nat.zero_le _) ⟨⟨_, Heap.get?_push_size _ rfl, rfl, rfl⟩, is1.push _⟩ ?_ ?_
    · rw [size1] at hm
      rcases List.mem_cons.mp hm with q | q
      · exact Nat.ne_of_lt (Nat.lt_succ_self _) q
      · exact Nat.ne_of_gt lt1 (List.mem_singleton.mp q)
    · have lt : i < ns.length := by rw [← many]; exact (Array.getElem?_eq_some_iff.mp hv).1
      obtain ⟨t, e⟩ := PyProof.Rows.IntsAre.int_at hit i v (by rw [Array.getElem?_toList]; exact hv)
      refine ⟨ns[i], t, List.getElem?_eq_getElem lt, e.trans ?_⟩
      rw [List.getD_eq_getElem?_getD, List.getElem?_eq_getElem lt]
      rfl
    · exact ⟨0, Nat.le_refl 0, setR_new_at (Heap.get?_push_of_some _ at0)⟩
    · rintro ⟨g, gs, dr, tk, io⟩ c mv hc hS
      obtain ⟨e1, e2, e3⟩ := And.intro mv.gens (And.intro mv.drawn mv.os)
      dsimp only at e1 e2 e3
      cases (show gs = s.gens from e1)
      cases (show dr = s.drawn from e2)
      cases (show io = s.os from e3)
      show wpAny _ _ _ _ _ _
      refine wpAny_pure ?_
      show wpAny _ _ (ret Value.none) _ _ _
      refine wpAny_pure ⟨rfl, g, tk, c, rfl, hS, by rw [← many]; exact hc, fun b o e => mv.heap b o (fun hm => ?_) (Heap.get?_push_of_some _ (Heap.get?_push_of_some _ e))⟩
      have lb := Heap.lt_size e
      rcases List.mem_cons.mp hm with q | q
      · exact Nat.ne_of_lt lb q
      · have q2 := List.mem_singleton.mp q
        rw [size1] at q2
        exact Nat.ne_of_lt (Nat.lt_succ_of_lt lb) q2
  · rcases r with er | (_ | _ | _ | u)
    · exact hr
    · exact hr.elim
    · exact hr.elim
    · exact hr.elim
    obtain ⟨rfl, g, tk, c, rfl, hS, hc, kp⟩ := hr
    repeat (any_goals (first | assumption | wp_step))
    exact fin g tk c hS hc kp
end
/-- two lists without repeats that hold the same are as long -/
theorem sameCard : ∀ {xs ys : List Int}, xs.Nodup → ys.Nodup → (∀ k, k ∈ xs ↔ k ∈ ys) → xs.length = ys.length
  | [], ys, _, _, h => by
    cases ys with
    | nil => rfl
    | cons y ys => exact ((h y).mpr List.mem_cons_self |> fun z => nomatch z)
  | x :: xs, ys, hx, hy, h => by
    obtain ⟨n1, n2⟩ := List.nodup_cons.mp hx
    have mx : x ∈ ys := (h x).mp List.mem_cons_self
    have ih := sameCard (xs := xs) (ys := ys.erase x) n2 (hy.erase x) fun k => by
      rw [hy.mem_erase_iff]
      constructor
      · intro hk
        exact ⟨fun e => n1 (e ▸ hk), (h k).mp (List.mem_cons_of_mem _ hk)⟩
      · rintro ⟨ne, hk⟩
        rcases List.mem_cons.mp ((h k).mpr hk) with e | e
        · exact (ne e).elim
        · exact e
    have pos : 0 < ys.length := List.length_pos_of_mem mx
    rw [List.length_cons, ih, List.length_erase_of_mem mx]
    omega
/-- set(l): which ints are in, how many -/
def rSetI (K : PySem.W.Frag) (w : World) : List V → Hp → VK → Prop := fun xs H Q => ∃ (l : Addr) (ns : List Int), xs = [.ref l] ∧ SqL K H l (ns.map V.int) ∧ ns.length ≤ 1000 ∧
  ∀ a n, H a = none → n ≤ ns.length → (∀ ys : List Int, ys.Nodup → (∀ k, k ∈ ys ↔ k ∈ ns) → ys.length = n) → Q (.ref a) (upd H a (SetO w a (fun j => decide (j ∈ ns)) n))
theorem cr_setI {X : Cx} (hc : X.calm = true) : CallR X (.type "set") (rSetI X.K X.w) := by
  intro pins s σ H xs us Q I r h
  obtain ⟨l, ns, rfl, hs, hn, q⟩ := h
  rw [Vals.ref1 r]
  obtain ⟨its, rv, isL, _⟩ := I.list hs
  refine set_of_list (I.ok.hd hc) isL.isList (by simpa using intsAre_of rv) (by unfold scanBound; omega) fun g tk c hS hc kp => ?_
  have free : H s.heap.objs.size = none := I.hok.fresh (Nat.le_refl _)
  refine ⟨.ref _, _, I.laid (t' := tk) kp (Nat.le_refl _) (setO_new hS), rfl, q _ c free hc fun ys nd hy => ?_⟩
  obtain ⟨o, es, ep, t, ho, hex, hd, hg, hnd, hm, _, _, hsz, _⟩ := hS
  have e := sameCard nd hnd fun k => by rw [hy k, ← hm k, decide_eq_true_iff]
  rw [e, List.length_map, Array.length_toList, hsz]
end Kv
namespace Kv
open PySem PySem.Spec PyProof.Rows L2
/-- len of a set of ints -/
def rLenS (w : World) : List V → Hp → VK → Prop := fun xs H Q => ∃ (a : Addr) (S : Int → Bool) (n : Nat), xs = [.ref a] ∧ H a = some (SetO w a S n) ∧ Q (.int n) H
theorem cr_lenS {X : Cx} : CallR X (.builtin "len") (rLenS X.w) := by
  intro pins s σ H xs us Q I r h
  obtain ⟨a, S, n, rfl, ha, q⟩ := h
  rw [Vals.ref1 r]
  obtain ⟨o, es, ep, t, ho, hex, hd, _, _, _, hb, hf, hn, _⟩ := setO_get I ha
  exact call_len_set ho hex hd hf (by unfold scanBound at hb; omega) ⟨.int n, H, I.tok _, ⟨_, by rw [hn]⟩, q⟩
section
variable {P : Program} {w : World} {A : Around} {E : Value → Shared → Prop} {s : Shared}
/-- t[::-1] by the library's slice -/
theorem tup_back {t sl : Addr} {items : Array Value} {R : Value → Shared → Prop} {v1 v2 v3 : Value} (ht : IsTup s.heap t items) (hs : s.heap.IsSliceOf sl v1 v2 v3) (p1 : IsPart v1 none) (p2 : IsPart v2 none) (p3 : IsPart v3 (some (-1)))
    (fin : R (.ref s.heap.objs.size) { s with heap := s.heap.push { cls := .type "tuple", data := .seq items.toList.reverse.toArray } }) (hz : items.size ≤ sizeLine) : wpAny (model P w) A (getItem (.ref t) (.ref sl)) R E s := by
  obtain ⟨os, g1, g2, g3⟩ := id hs
  have ts : s.TypeIs (.ref sl) "slice" := ⟨os, g1, g2⟩
  unfold getItem
  try with_reducible refine wpAny_holding ?_
  first | refine wpAny_bind (wpAny_pure ?_) | skip
  refine wpAny_bind (wpAny_sequenceKey ht.typeIs (by decide) (wpAny_bind (wpAny_callSpecial?_slot (name := Str.ofString "__getitem__") ht.typeIs PyProof.Rows.slot_tuple_getitem (wpAny_call_entry PyProof.Rows.slot_tuple_getitem ht.typeIs PyProof.Rows.entry_tuple_getitem ?_ (PyProof.Rows.args_tuple_getitem _ _)))))
  show wpAny _ _ (Builtin.Tuple.tupleItemsOf (.ref t) >>= _) _ _ s
  refine wpAny_bind (PyProof.Rows.tupleItemsOf_ ht (wpAny_bind (wpAny_typeOf ts ?_)))
  rw [if_pos (by decide)]
  have cut : ∀ {T : Int × Int × Nat → Shared → Prop}, T ((items.size : Int) - 1, -1, items.size) s → wpAny (model P w) A.in1 (Builtin.Slice.sliceApplied (.ref sl) (pure (items.size : Int))) T E s := fun {T} k => by
    unfold Builtin.Slice.sliceApplied Builtin.Slice.sliceFields
    refine wpAny_bind (wpAny_bind (wpAny_field g1 g3 (x := v1) rfl (wpAny_bind (wpAny_field g1 g3 (x := v2) rfl (wpAny_bind (wpAny_field g1 g3 (x := v3) rfl (wpAny_pure ?_)))))))
    refine wpAny_bind (HT.slicePart_ p3 ?_)
    show wpAny _ _ (if ((-1 : Int) == 0) = true then _ else _) _ _ s
    rw [if_neg (by decide)]
    refine wpAny_bind (HT.slicePart_ p1 (wpAny_bind (HT.slicePart_ p2 (wpAny_bind (wpAny_pure ?_)))))
    have e : Builtin.Slice.slicePlaces ((items.size : Int) - 1) (-1) (-1) = items.size := by
      unfold Builtin.Slice.slicePlaces
      rw [if_neg (by decide)]
      by_cases h : (items.size : Int) - 1 > -1
      · rw [if_pos h, Int.neg_neg, Int.ediv_one]
        omega
      · rw [if_neg h]
        omega
    show wpAny _ _ (pure ((items.size : Int) - 1, (-1 : Int), Builtin.Slice.slicePlaces ((items.size : Int) - 1) (-1) (-1))) _ _ s
    rw [e]
    exact wpAny_pure k
  refine wpAny_bind (cut ?_)
  have no : ¬ ((((items.size : Int) - 1) == 0 && (-1 : Int) == 1 && items.size == items.size) = true) := by simp
  show wpAny _ _ (if (((items.size : Int) - 1) == 0 && (-1 : Int) == 1 && items.size == items.size) = true then _ else _) _ _ s
  have e : ((List.range items.size).filterMap fun (k : Nat) => items[((items.size : Int) - 1 + (k : Int) * -1).toNat]?).toArray = items.toList.reverse.toArray := by
    have e1 : (fun (k : Nat) => items[((items.size : Int) - 1 + (k : Int) * -1).toNat]?) = fun (k : Nat) => items[((items.size : Int) - 1 + (k : Int) * -1).toNat]? := rfl
    have e2 : (List.range items.size).filterMap (fun (k : Nat) => items[((items.size : Int) - 1 + (k : Int) * -1).toNat]?) = ((List.range items.size).map fun k => items.size - 1 - k).filterMap (items[·]?) := by
      rw [List.filterMap_map]
      refine congrArg (fun g => (List.range items.size).filterMap g) (funext fun k => ?_)
      have e3 : ((items.size : Int) - 1 + (k : Int) * -1).toNat = items.size - 1 - k := by omega
      show items[((items.size : Int) - 1 + (k : Int) * -1).toNat]? = items[items.size - 1 - k]?
      rw [e3]
    rw [e2, PySem.W.krv_range, List.filterMap_reverse, PySem.W.krv_all]
  rw [if_neg no, e]
  have fits : sizeOk (.seq items.toList.reverse.toArray) := by
    show items.toList.reverse.toArray.size ≤ sizeLine
    rw [List.size_toArray, List.length_reverse, Array.length_toList]
    exact hz
  first
    | exact wpAny_bind (m := Builtin.Tuple.tupleExact _) (wpAny_newObj_type (wpAny_pure ⟨_, rfl, wpAny_pure fin⟩) fits)
    | exact wpAny_bind (wpAny_bind (m := Builtin.Tuple.tupleExact _) (wpAny_newObj_type (wpAny_pure (wpAny_pure ⟨_, rfl, wpAny_pure fin⟩)) fits))
    | exact wpAny_bind (m := Builtin.Tuple.tupleExact _) (wpAny_newObj_type (wpAny_bind (wpAny_pure (wpAny_pure ⟨_, rfl, wpAny_pure fin⟩))) fits)
end
/-- t[::-1] -/
def tRevT (K : PySem.W.Frag) (te : TE) : TE := fun σ H Q => te σ H fun x H1 => ∃ a xs, x = .ref a ∧ SqT K H1 a xs ∧ ∀ p, H1 p = none → Q (.ref p) (upd H1 p (.tup xs.reverse))
theorem pe_revT {X : Cx} {e : Expr} {te : TE} {k : Nat} {p1 p2 p3 pos : Pos} (he : PE X e te) : PE X (.Subscript e (.Slice none none (some (.UnaryOp .USub (.Constant (.int 1) k p1) p2)) p3) pos) (tRevT X.K te) := by
  refine ⟨fun pins s σ H Q I h => Subscript_ (thn (he.run pins s σ H _ I h) fun v s1 ⟨x, H1, I1, r1, a, xs, ex, hx, q⟩ => ?_)⟩
  subst ex
  cases r1
  have back : PO X (some (.UnaryOp .USub (.Constant (.int 1) k p1) p2)) (tPart (tUn (rU fun i => .int (-i)) (tC (.int 1)))) := po_some (pe_un un_neg pe_int)
  refine wpAny_Slice (thn (po_none.run pins s1 σ H1 (fun o G => o = none ∧ G = H1) I1 ⟨rfl, rfl⟩) fun w1 s2 ⟨o1, G1, I2, q1, z1, z2⟩ => ?_)
  subst z1 z2
  refine thn (po_none.run pins s2 σ G1 (fun o G => o = none ∧ G = G1) I2 ⟨rfl, rfl⟩) fun w2 s3 ⟨o2, G2, I3, q2, z1, z2⟩ => ?_
  subst z1 z2
  refine thn (back.run pins s3 σ G2 (fun o G => o = some (-1) ∧ G = G2) I3 ⟨1, rfl, -1, rfl, rfl, rfl⟩) fun w3 s4 ⟨o3, G3, I4, q3, z1, z2⟩ => ?_
  subst z1 z2
  have J : Inv X pins σ G3 { s4 with heap := s4.heap.push { cls := .type "slice", data := .fields #[w1, w2, w3] } } := I4.kept (t' := s4.toks) fun b ob y => Heap.get?_push_of_some _ y
  obtain ⟨its, r, isT, hz⟩ := J.tuple hx
  have len := r.length
  show wpAny (model X.prog X.w) X.A (subscriptTail e (.Slice none none (some (.UnaryOp .USub (.Constant (.int 1) k p1) p2)) p3) (.ref a) (.ref s4.heap.objs.size)) (EP X pins σ Q) X.xe _
  refine tail_any (ops := [.ref a, .ref s4.heap.objs.size]) isT.typeIs PyProof.Rows.slot_tuple_getitem.lookup ?_ (by with_unfolding_all rfl)
  refine tup_back isT (Heap.IsSliceOf.new _ w1 w2 w3) q1 q2 q3 ?_ (by rw [List.size_toArray]; omega)
  refine ⟨.ref _, _, J.laid (t' := s4.toks) (o := .tup xs.reverse) (fun b ob y => Heap.get?_push_of_some _ y) (Nat.le_refl _) ⟨by rw [List.length_reverse]; exact hz, _, r.reverse, IsTup.new _ _⟩, rfl, q _ (J.hok.fresh (Nat.le_refl _))⟩
end Kv
/-! comprehensions of ints: filtered and mapped -/
namespace Kv
open PySem PySem.Spec PyProof.Rows L2
/-- what a comprehension over the walk J asks at its list D -/
abbrev LcAt (J : It) (g : TG) (tt : TT) (te : TE) (vs : List Nat) (σ : L2.St) (D : Addr) (H1 : Hp) (Qd : Hp → Prop) : Prop :=
  ∃ W : Nat → Nat → Hp → Prop, (∃ m, W 0 m (upd H1 D (.lst []))) ∧ ∀ i m G, W i m G → (J.stop i G ∧ Qd G) ∨ (J.go i G ∧ ∃ Nx : Hp → Prop, (∀ G2, Nx G2 → ∃ m2, m2 < m ∧ W (i + 1) m2 G2) ∧
    ∀ x G2, J.yld i G x G2 → g x (wipe σ vs) G2 fun τ G3 => wipe τ vs = wipe σ vs ∧ tt τ G3 fun b G4 => if b = true then te τ G4 fun y G5 => ∃ acc, G5 D = some (.lst acc) ∧ acc.length < sizeLine ∧ Nx (upd G5 D (.lst (acc ++ [y]))) else Nx G4)
theorem flat_ints (l : List Int) : (l.map V.int).all flatV = true := by
  induction l with
  | nil => rfl
  | cons z l ih => rw [List.map_cons, List.all_cons, ih] <;> rfl
theorem inV_ints {r : Int} : ∀ l : List Int, inV (.int r) (l.map V.int) = l.contains r
  | [] => rfl
  | z :: l => by
    have e : inV (.int r) (V.int z :: l.map V.int) = (eqV (.int z) (.int r) || inV (.int r) (l.map V.int)) := rfl
    rw [List.map_cons, e, inV_ints l, List.contains_cons]
    congr 1
    show (z == r) = (r == z)
    exact Bool.beq_comm
section
variable {K : PySem.W.Frag} {a D : Addr} {zs : List Int} {j : Nat} {tt : TT} {te : TE} {σ : L2.St} {H1 : Hp} {Qd : Hp → Prop}
/-- one turn -/
theorem turnV (p : Int → Bool) (f : Int → V) (hlen : zs.length ≤ 1000) (nD : H1 D = none)
    (ht : ∀ z ∈ zs, ∀ G, Same H1 G → ∀ R : Bool → Hp → Prop, (∀ G2, Same G G2 → R (p z) G2) → tt ((wipe σ [j]).set j (some (.int z))) G R)
    (he : ∀ z ∈ zs, p z = true → ∀ G, Same H1 G → ∀ R : VK, (∀ G2, Same G G2 → R (f z) G2) → te ((wipe σ [j]).set j (some (.int z))) G R)
    {i : Nat} {z : Int} {G : Hp} (hz : zs[i]? = some z) (s : Same H1 G) (hD : G D = some (.lst (((zs.take i).filter p).map f))) :
    tt ((wipe σ [j]).set j (some (.int z))) G fun b G4 => if b = true then te ((wipe σ [j]).set j (some (.int z))) G4 fun y G5 => ∃ acc, G5 D = some (.lst acc) ∧ acc.length < sizeLine ∧ (Same H1 (upd G5 D (.lst (acc ++ [y]))) ∧ upd G5 D (.lst (acc ++ [y])) D = some (.lst (((zs.take (i + 1)).filter p).map f))) else (Same H1 G4 ∧ G4 D = some (.lst (((zs.take (i + 1)).filter p).map f))) := by
  have mz := List.mem_of_getElem? hz
  refine ht z mz G s _ fun G2 s2 => ?_
  cases hp : p z with
  | true =>
    refine iteT (he z mz hp G2 (s.trans s2) _ fun G3 s3 => ⟨_, s3 _ _ (s2 _ _ hD), ?_, samePut ((s.trans s2).trans s3) nD, ?_⟩)
    · rw [List.length_map]
      exact Nat.lt_of_le_of_lt (Nat.le_trans (List.length_filter_le _ _) (by rw [List.length_take]; omega)) (show 1000 < sizeLine by decide)
    · rw [upd_same, takeSucc zs hz, List.filter_append, List.map_append]
      have e : [z].filter p = [z] := by simp [hp]
      rw [e]
      rfl
  | false =>
    refine iteF ⟨s.trans s2, ?_⟩
    rw [s2 _ _ hD, takeSucc zs hz, List.filter_append]
    have e : [z].filter p = [] := by simp [hp]
    rw [e, List.append_nil]
theorem lcV_list (p : Int → Bool) (f : Int → V) (src : SqL K H1 a (zs.map V.int)) (hlen : zs.length ≤ 1000) (nD : H1 D = none)
    (ht : ∀ z ∈ zs, ∀ G, Same H1 G → ∀ R : Bool → Hp → Prop, (∀ G2, Same G G2 → R (p z) G2) → tt ((wipe σ [j]).set j (some (.int z))) G R)
    (he : ∀ z ∈ zs, p z = true → ∀ G, Same H1 G → ∀ R : VK, (∀ G2, Same G G2 → R (f z) G2) → te ((wipe σ [j]).set j (some (.int z))) G R)
    (fin : ∀ G, Same H1 G → G D = some (.lst ((zs.filter p).map f)) → Qd G) (hw : ∀ x, wipe ((wipe σ [j]).set j (some x)) [j] = wipe σ [j] := by intro x; rfl) : LcAt (Itl K a) (gName j) tt te [j] σ D H1 Qd := by
  refine lc_list (xs := zs.map V.int) (fun i G => Same H1 G ∧ G D = some (.lst (((zs.take i).filter p).map f))) ⟨sameNew nD, upd_same⟩ (fun i G _ h => sameL h.1 src) (fun i x G hx h => ?_) (fun G h => ?_)
  · rw [List.getElem?_map] at hx
    obtain ⟨z, hz, rfl⟩ := Option.map_eq_some_iff.mp hx
    exact ⟨hw _, turnV p f hlen nD ht he hz h.1 h.2⟩
  · have e := h.2
    rw [List.length_map, List.take_length] at e
    exact fin G h.1 e
theorem lcV_tup (p : Int → Bool) (f : Int → V) (src : SqT K H1 a (zs.map V.int)) (hlen : zs.length ≤ 1000) (nD : H1 D = none)
    (ht : ∀ z ∈ zs, ∀ G, Same H1 G → ∀ R : Bool → Hp → Prop, (∀ G2, Same G G2 → R (p z) G2) → tt ((wipe σ [j]).set j (some (.int z))) G R)
    (he : ∀ z ∈ zs, p z = true → ∀ G, Same H1 G → ∀ R : VK, (∀ G2, Same G G2 → R (f z) G2) → te ((wipe σ [j]).set j (some (.int z))) G R)
    (fin : ∀ G, Same H1 G → G D = some (.lst ((zs.filter p).map f)) → Qd G) (hw : ∀ x, wipe ((wipe σ [j]).set j (some x)) [j] = wipe σ [j] := by intro x; rfl) : LcAt (Itt K a) (gName j) tt te [j] σ D H1 Qd := by
  refine lc_tup (xs := zs.map V.int) (fun i G => Same H1 G ∧ G D = some (.lst (((zs.take i).filter p).map f))) ⟨sameNew nD, upd_same⟩ (fun i G _ h => sameT h.1 src) (fun i x G hx h => ?_) (fun G h => ?_)
  · rw [List.getElem?_map] at hx
    obtain ⟨z, hz, rfl⟩ := Option.map_eq_some_iff.mp hx
    exact ⟨hw _, turnV p f hlen nD ht he hz h.1 h.2⟩
  · have e := h.2
    rw [List.length_map, List.take_length] at e
    exact fin G h.1 e
theorem mapI (f : Int → Int) (l : List Int) : (l.map f).map V.int = l.map fun z => V.int (f z) := by rw [List.map_map]; rfl
theorem lcI_list (p : Int → Bool) (f : Int → Int) (src : SqL K H1 a (zs.map V.int)) (hlen : zs.length ≤ 1000) (nD : H1 D = none)
    (ht : ∀ z ∈ zs, ∀ G, Same H1 G → ∀ R : Bool → Hp → Prop, (∀ G2, Same G G2 → R (p z) G2) → tt ((wipe σ [j]).set j (some (.int z))) G R)
    (he : ∀ z ∈ zs, p z = true → ∀ G, Same H1 G → ∀ R : VK, (∀ G2, Same G G2 → R (.int (f z)) G2) → te ((wipe σ [j]).set j (some (.int z))) G R)
    (fin : ∀ G, Same H1 G → G D = some (.lst (((zs.filter p).map f).map V.int)) → Qd G) (hw : ∀ x, wipe ((wipe σ [j]).set j (some x)) [j] = wipe σ [j] := by intro x; rfl) : LcAt (Itl K a) (gName j) tt te [j] σ D H1 Qd :=
  lcV_list p (fun z => V.int (f z)) src hlen nD ht he (fun G s h => fin G s (by rw [mapI]; exact h)) hw
theorem lcI_tup (p : Int → Bool) (f : Int → Int) (src : SqT K H1 a (zs.map V.int)) (hlen : zs.length ≤ 1000) (nD : H1 D = none)
    (ht : ∀ z ∈ zs, ∀ G, Same H1 G → ∀ R : Bool → Hp → Prop, (∀ G2, Same G G2 → R (p z) G2) → tt ((wipe σ [j]).set j (some (.int z))) G R)
    (he : ∀ z ∈ zs, p z = true → ∀ G, Same H1 G → ∀ R : VK, (∀ G2, Same G G2 → R (.int (f z)) G2) → te ((wipe σ [j]).set j (some (.int z))) G R)
    (fin : ∀ G, Same H1 G → G D = some (.lst (((zs.filter p).map f).map V.int)) → Qd G) (hw : ∀ x, wipe ((wipe σ [j]).set j (some x)) [j] = wipe σ [j] := by intro x; rfl) : LcAt (Itt K a) (gName j) tt te [j] σ D H1 Qd :=
  lcV_tup p (fun z => V.int (f z)) src hlen nD ht he (fun G s h => fin G s (by rw [mapI]; exact h)) hw
/-- the ints from 0 on, below n -/
def upTo (n : Nat) : List Int := (List.range n).map fun (i : Nat) => (i : Int)
theorem upTo_get {n i : Nat} (h : i < n) : (upTo n)[i]? = some (i : Int) := by
  unfold upTo
  rw [List.getElem?_map, List.getElem?_range h]
  rfl
theorem upTo_len (n : Nat) : (upTo n).length = n := by
  unfold upTo
  rw [List.length_map, List.length_range]
theorem upTo_mem {n : Nat} {z : Int} : z ∈ upTo n ↔ 0 ≤ z ∧ z < n := by
  unfold upTo
  rw [List.mem_map]
  constructor
  · rintro ⟨i, hi, rfl⟩
    have := List.mem_range.mp hi
    omega
  · rintro ⟨h0, h1⟩
    exact ⟨z.toNat, List.mem_range.mpr (by omega), by omega⟩
theorem lcV_range {n : Nat} (p : Int → Bool) (f : Int → V) (hlen : n ≤ 1000) (nD : H1 D = none)
    (ht : ∀ z ∈ upTo n, ∀ G, Same H1 G → ∀ R : Bool → Hp → Prop, (∀ G2, Same G G2 → R (p z) G2) → tt ((wipe σ [j]).set j (some (.int z))) G R)
    (he : ∀ z ∈ upTo n, p z = true → ∀ G, Same H1 G → ∀ R : VK, (∀ G2, Same G G2 → R (f z) G2) → te ((wipe σ [j]).set j (some (.int z))) G R)
    (fin : ∀ G, Same H1 G → G D = some (.lst (((upTo n).filter p).map f)) → Qd G) (hw : ∀ x, wipe ((wipe σ [j]).set j (some x)) [j] = wipe σ [j] := by intro x; rfl) : LcAt (Itr 0 n) (gName j) tt te [j] σ D H1 Qd := by
  refine lc_range (lo := 0) (n := n) (fun i G => Same H1 G ∧ G D = some (.lst ((((upTo n).take i).filter p).map f))) ⟨sameNew nD, upd_same⟩ (fun i G hi h => ?_) (fun G h => ?_)
  · have e : (0 : Int) + (i : Nat) = (i : Nat) := Int.zero_add _
    rw [e]
    exact ⟨hw _, turnV p f (by rw [upTo_len]; exact hlen) nD ht he (upTo_get hi) h.1 h.2⟩
  · have e := h.2
    rw [List.take_of_length_le (by rw [upTo_len]; exact Nat.le_refl _)] at e
    exact fin G h.1 e
end
end Kv
/-! lists of ints without repeats; what is come to by links -/
namespace Kv
open PySem PySem.Spec PyProof.Rows L2
theorem nodupLe : ∀ {xs ys : List Int}, xs.Nodup → (∀ k ∈ xs, k ∈ ys) → xs.length ≤ ys.length
  | [], ys, _, _ => Nat.zero_le _
  | x :: xs, ys, hx, h => by
    obtain ⟨n1, n2⟩ := List.nodup_cons.mp hx
    have mx : x ∈ ys := h x List.mem_cons_self
    have ih := nodupLe (xs := xs) (ys := ys.erase x) n2 fun k hk => (List.mem_erase_of_ne (fun (e : k = x) => n1 (by rw [← e]; exact hk))).mpr (h k (List.mem_cons_of_mem _ hk))
    have pos : 0 < ys.length := List.length_pos_of_mem mx
    rw [List.length_erase_of_mem mx] at ih
    rw [List.length_cons]
    omega
/-- all of a list that is as long are all there are -/
theorem nodupAll {xs ys : List Int} (hx : xs.Nodup) (h : ∀ k ∈ xs, k ∈ ys) (hl : ys.length ≤ xs.length) : ∀ k ∈ ys, k ∈ xs := fun k hk => by
  by_cases hm : k ∈ xs
  · exact hm
  · have h2 := nodupLe (xs := k :: xs) (ys := ys) (List.nodup_cons.mpr ⟨hm, hx⟩) fun z hz => by
      rcases List.mem_cons.mp hz with e | e
      · rw [e]
        exact hk
      · exact h z e
    rw [List.length_cons] at h2
    omega
theorem nodupOfAll {xs ys : List Int} (hx : xs.Nodup) (h : ∀ k ∈ xs, k ∈ ys) (hl : ys.length ≤ xs.length) : ys.Nodup := by
  induction ys generalizing xs with
  | nil => exact List.nodup_nil
  | cons y ys ih =>
    have all := nodupAll hx h hl
    have my : y ∈ xs := all y List.mem_cons_self
    have hl2 : ys.length ≤ (xs.erase y).length := by
      rw [List.length_erase_of_mem my]
      rw [List.length_cons] at hl
      omega
    have sub : ∀ k ∈ xs.erase y, k ∈ ys := fun k hk => by
      have h2 := (hx.mem_erase_iff).mp hk
      rcases List.mem_cons.mp (h k h2.2) with e | e
      · exact (h2.1 e).elim
      · exact e
    refine List.nodup_cons.mpr ⟨fun hy => ?_, ih (hx.erase y) sub hl2⟩
    have h3 := nodupAll (hx.erase y) sub hl2 y hy
    exact ((hx.mem_erase_iff).mp h3).1 rfl
theorem exNodup : ∀ xs : List Int, ∃ ys : List Int, ys.Nodup ∧ ∀ k, k ∈ ys ↔ k ∈ xs
  | [] => ⟨[], List.nodup_nil, fun k => Iff.rfl⟩
  | x :: xs => by
    obtain ⟨ys, nd, h⟩ := exNodup xs
    by_cases hx : x ∈ xs
    · refine ⟨ys, nd, fun k => ?_⟩
      rw [h k, List.mem_cons]
      exact ⟨Or.inr, fun z => z.elim (fun e => e ▸ hx) id⟩
    · refine ⟨x :: ys, List.nodup_cons.mpr ⟨fun z => hx ((h x).mp z), nd⟩, fun k => ?_⟩
      rw [List.mem_cons, List.mem_cons, h k]
theorem inRange {xs : List Int} {m : Int} (hx : xs.Nodup) (h : ∀ k ∈ xs, 0 ≤ k ∧ k < m) : xs.length ≤ m.toNat := by
  have h2 := nodupLe (ys := upTo m.toNat) hx fun k hk => upTo_mem.mpr ⟨(h k hk).1, by have := (h k hk).2; have := (h k hk).1; omega⟩
  rw [upTo_len] at h2
  exact h2
/-- two sorted lists that hold the same, each once, are one -/
theorem sortedEq : ∀ {xs ys : List Int}, xs.Pairwise (· < ·) → ys.Pairwise (· < ·) → (∀ k, k ∈ xs ↔ k ∈ ys) → xs = ys
  | [], [], _, _, _ => rfl
  | [], y :: ys, _, _, h => nomatch (h y).mpr List.mem_cons_self
  | x :: xs, [], _, _, h => nomatch (h x).mp List.mem_cons_self
  | x :: xs, y :: ys, hx, hy, h => by
    obtain ⟨x1, x2⟩ := List.pairwise_cons.mp hx
    obtain ⟨y1, y2⟩ := List.pairwise_cons.mp hy
    have e : x = y := by
      rcases List.mem_cons.mp ((h x).mp List.mem_cons_self) with e | e
      · exact e
      · rcases List.mem_cons.mp ((h y).mpr List.mem_cons_self) with e2 | e2
        · exact e2.symm
        · have a := y1 x e
          have b := x1 y e2
          omega
    subst e
    congr 1
    refine sortedEq x2 y2 fun k => ⟨fun hk => ?_, fun hk => ?_⟩
    · rcases List.mem_cons.mp ((h k).mp (List.mem_cons_of_mem _ hk)) with e | e
      · have := x1 k hk
        omega
      · exact e
    · rcases List.mem_cons.mp ((h k).mpr (List.mem_cons_of_mem _ hk)) with e | e
      · have := y1 k hk
        omega
      · exact e
section
variable {st en : Int → Int} {bs zs : List Int}
/-- come to from the places bs by the links zs -/
inductive Reach (st en : Int → Int) (bs zs : List Int) : Int → Prop
  | base {b : Int} (h : b ∈ bs) : Reach st en bs zs b
  | step {z : Int} (h : Reach st en bs zs (st z)) (hz : z ∈ zs) : Reach st en bs zs (en z)
/-- all that are come to, each once -/
structure AllHeard (st en : Int → Int) (bs zs hs : List Int) : Prop where
  nd : hs.Nodup
  sub : ∀ b ∈ bs, b ∈ hs
  cl : ∀ z ∈ zs, st z ∈ hs → en z ∈ hs
  rc : ∀ h ∈ hs, Reach st en bs zs h
theorem AllHeard.mem {hs : List Int} (h : AllHeard st en bs zs hs) {k : Int} : k ∈ hs ↔ Reach st en bs zs k :=
  ⟨h.rc k, fun r => by
    induction r with
    | base hb => exact h.sub _ hb
    | step _ hz ih => exact h.cl _ hz ih⟩
/-- amid the walk: hs heard, ws waiting -/
structure Walking (st en : Int → Int) (bs zs : List Int) (m : Int) (hs ws : List Int) : Prop where
  nd : hs.Nodup
  sub : ∀ b ∈ bs, b ∈ hs
  wsub : ∀ b ∈ ws, b ∈ hs
  rc : ∀ h ∈ hs, Reach st en bs zs h
  rng : ∀ h ∈ hs, 0 ≤ h ∧ h < m
  cl : ∀ z ∈ zs, st z ∈ hs → st z ∈ ws ∨ en z ∈ hs
/-- amid one place's turn: y was taken, the first of zs are done -/
structure Turning (st en : Int → Int) (bs zs : List Int) (m : Int) (y : Int) (hs ws dn : List Int) : Prop where
  nd : hs.Nodup
  sub : ∀ b ∈ bs, b ∈ hs
  wsub : ∀ b ∈ ws, b ∈ hs
  ym : y ∈ hs
  rc : ∀ h ∈ hs, Reach st en bs zs h
  rng : ∀ h ∈ hs, 0 ≤ h ∧ h < m
  cl : ∀ z ∈ zs, st z ∈ hs → st z ∈ ws ∨ (en z ∈ hs ∨ st z = y)
  dn : ∀ z ∈ dn, st z = y → en z ∈ hs
variable {m y : Int} {hs ws dn : List Int}
theorem Walking.start (nd : bs.Nodup) (rng : ∀ b ∈ bs, 0 ≤ b ∧ b < m) : Walking st en bs zs m bs bs := ⟨nd, fun b h => h, fun b h => h, fun h hh => .base hh, rng, fun z _ h => Or.inl h⟩
theorem Walking.done (h : Walking st en bs zs m hs []) : AllHeard st en bs zs hs := ⟨h.nd, h.sub, fun z hz hs => (h.cl z hz hs).elim (fun e => nomatch e) id, h.rc⟩
theorem Walking.take (h : Walking st en bs zs m hs (ws ++ [y])) : Turning st en bs zs m y hs ws [] :=
  ⟨h.nd, h.sub, fun b hb => h.wsub b (List.mem_append_left _ hb), h.wsub y (List.mem_append_right _ List.mem_cons_self), h.rc, h.rng, fun z hz hs => by
    rcases h.cl z hz hs with e | e
    · rcases List.mem_append.mp e with e | e
      · exact Or.inl e
      · exact Or.inr (Or.inr (List.mem_singleton.mp e))
    · exact Or.inr (Or.inl e), fun z hz => nomatch hz⟩
theorem Turning.fin (h : Turning st en bs zs m y hs ws zs) : Walking st en bs zs m hs ws := ⟨h.nd, h.sub, h.wsub, h.rc, h.rng, fun z hz hs => by
    rcases h.cl z hz hs with e | e | e
    · exact Or.inl e
    · exact Or.inr e
    · exact Or.inr (h.dn z hz e)⟩
theorem Turning.skip {z : Int} (h : Turning st en bs zs m y hs ws dn) (hno : st z = y → en z ∈ hs) : Turning st en bs zs m y hs ws (dn ++ [z]) :=
  ⟨h.nd, h.sub, h.wsub, h.ym, h.rc, h.rng, h.cl, fun k hk e => by
    rcases List.mem_append.mp hk with q | q
    · exact h.dn k q e
    · rw [List.mem_singleton.mp q] at e ⊢
      exact hno e⟩
theorem Turning.put {z : Int} (h : Turning st en bs zs m y hs ws dn) (hz : z ∈ zs) (e : st z = y) (hn : en z ∉ hs) (hr : 0 ≤ en z ∧ en z < m) : Turning st en bs zs m y (hs ++ [en z]) (ws ++ [en z]) (dn ++ [z]) where
  nd := List.nodup_append.mpr ⟨h.nd, by simp, fun a ha b hb e2 => by
    rw [List.mem_singleton.mp hb] at e2
    rw [e2] at ha
    exact hn ha⟩
  sub := fun b hb => List.mem_append_left _ (h.sub b hb)
  wsub := fun b hb => by
    rcases List.mem_append.mp hb with q | q
    · exact List.mem_append_left _ (h.wsub b q)
    · exact List.mem_append_right _ q
  ym := List.mem_append_left _ h.ym
  rc := fun k hk => by
    rcases List.mem_append.mp hk with q | q
    · exact h.rc k q
    · rw [List.mem_singleton.mp q]
      exact .step (by rw [e]; exact h.rc y h.ym) hz
  rng := fun k hk => by
    rcases List.mem_append.mp hk with q | q
    · exact h.rng k q
    · rw [List.mem_singleton.mp q]
      exact hr
  cl := fun k hk hs2 => by
    rcases List.mem_append.mp hs2 with q | q
    · rcases h.cl k hk q with q | q | q
      · exact Or.inl (List.mem_append_left _ q)
      · exact Or.inr (Or.inl (List.mem_append_left _ q))
      · exact Or.inr (Or.inr q)
    · exact Or.inl (List.mem_append_right _ q)
  dn := fun k hk e2 => by
    rcases List.mem_append.mp hk with q | q
    · exact List.mem_append_left _ (h.dn k q e2)
    · rw [List.mem_singleton.mp q]
      exact List.mem_append_right _ List.mem_cons_self
end
end Kv
namespace Kv
open PySem PySem.Spec PyProof.Rows L2

/-! ### a new error as a value -/
section
variable {X : Cx} {C : Addr} {x : Str} {p pos : Pos} {e o : Expr} {es : List Expr} {ta : TA} {te : TE}
/-- X(), a class without an __init__ of its own -/
def tExc0 (C : Addr) : TE := fun σ H Q => ∀ a, H a = none → Q (.ref a) (upd H a (ExO (.ref C) a))
theorem pe_exc0 {bm : List Value} {B newId initId : String} (F : ExcBaseFacts B newId initId bm) (q : PySem.W.excIn X.K C bm newId = true) (gC : X.mg x = some (.ref C)) (kC : PySem.W.keepIn X.K (.ref C) = true) (hg : Gl X x)
    (hdb : (x == ("__debug__" : Str)) = false := by decide) : PE X (.Call (.Name x p) [] [] pos) (tExc0 C) := by
  refine ⟨fun pins s σ H Q I h => wpAny_Call_Name_kw (ld_glob I hg gC ?_ hdb)⟩
  refine PySem.W.callWith_K0 (first := []) I.kIn kC ?_
  show wpAny _ _ (call (.ref C) []) _ _ _
  obtain ⟨bm', N, nm, qn, bs, hdct, sn, sub, ab, col, d, k0, k1, k2, k3, k5, mN, hC, hN, hni, T⟩ := exc_obj I.kIn q
  refine wpAny_call_exc_subT F T hC hN hni (fun h2 a hm => ?_) (Nat.zero_le _)
  have free : H a = none := I.hok.gone hm.new
  obtain ⟨t, ht, _, _⟩ := hm.there
  exact ⟨.ref a, _, I.laidN hm.keeps hm.new free (exO_ok ht ⟨rfl, rfl⟩ rfl rfl rfl (show 4 < 6 by decide)), rfl, h a free⟩

/-- X(e, ..), a class with an __init__ of its own that keeps sp -/
def tExcI (C : Addr) (sp : Sp) (ta : TA) : TE := fun σ H Q => ta σ H fun vs H1 => vs.length ≤ 1000 ∧ ∀ a, H1 a = none → sp (.ref a :: vs) (upd H1 a (exo a C none)) (fun v H2 => v = .non ∧ Q (.ref a) H2) E0
theorem pe_excI {fI : Addr} {k : Nat} {fd : FuncData} {ps : List Str} {sp : Sp} (T : OexC X.K C) (iC : PySem.W.findIn X.K (.ref C) "__init__" = some (some (.ref fI))) (tI : PySem.W.typeIn X.K (.ref fI) = some (.type "function"))
    (F1 : FnOk X.prog X.w X.K X.mg X.base CX0 k fI fd ps sp) (hr : Room (k + 1) X.A) (hb : Binds X.K fd ps []) (hg : Gl X x) (hm : X.mg x = some (.ref C)) (ha : PA X (e :: es) ta)
    (hdb : (x == ("__debug__" : Str)) = false := by decide) (he : starEach (e :: es) X.env = (false, eval e X.env) :: starEach es X.env := by rfl) (hpl : (backTo pos (starEach es X.env)).any (·.1) = false := by rfl) :
    PE X (.Call (.Name x p) (e :: es) [] pos) (tExcI C sp ta) := by
  refine ⟨fun pins s σ H Q I h => wpAny_Call_Name_kw (ld_glob I hg hm ?_ hdb)⟩
  obtain ⟨nm, q, N, bs, bm, sn, sub, ab, col, d0, k0, k1, k2, k3, k5, hC, hbm⟩ := T.cls
  refine PySem.W.callWith_K (h₀ := X.base) I.ok.mod.kin T.kC (thn (ha.run pos pins s σ H _ I h) fun us z hz => ?_) he hpl
  obtain ⟨vs, H1, I1, rv, hlen, hq⟩ := hz
  refine ⟨I1.kIn, ?_⟩
  show wpAny _ _ (call (.ref C) us) _ _ _
  obtain ⟨hp, g, dr, tk, os⟩ := z
  have big : hp.objs.size ≤ hp.objs.size + 1 := Nat.le_succ _
  have want := hq (hp.objs.size + 1) (I1.hok.fresh big)
  have keep : ∀ b u, hp.get? b = some u → ((hp.push (PySem.W.kdv_tup us)).push (PySem.HandSPX.excO C hp.objs.size)).get? b = some u := fun b u y => Heap.get?_push_of_some _ (Heap.get?_push_of_some _ y)
  have there : ((hp.push (PySem.W.kdv_tup us)).push (PySem.HandSPX.excO C hp.objs.size)).get? (hp.objs.size + 1) = some (PySem.HandSPX.excO C hp.objs.size) := by heap_get
  have I2 : Inv X pins σ (upd H1 (hp.objs.size + 1) (exo (hp.objs.size + 1) C none)) ⟨(hp.push (PySem.W.kdv_tup us)).push (PySem.HandSPX.excO C hp.objs.size), g, dr, tk, os⟩ := I1.laid (t' := tk) keep big (exo_ok there)
  have rel : Vals (V.ref (hp.objs.size + 1) :: vs) (Value.ref (hp.objs.size + 1) :: us) := .cons rfl rv
  have cnt : ((Value.ref (hp.objs.size + 1) :: us) ++ []).length = ps.length := by
    rw [List.append_nil, ← rel.length]
    exact F1.len _ _ _ _ want
  have usz : us.length ≤ sizeLine := by
    rw [← rv.length, sizeLine_eq]
    omega
  have bd := hb ⟨(hp.push (PySem.W.kdv_tup us)).push (PySem.HandSPX.excO C hp.objs.size), g, dr, tk, os⟩ (Value.ref (hp.objs.size + 1) :: us) I2.kIn cnt
  rw [List.append_nil] at bd
  refine wpAny_call (PySem.HandSPX.call_own F.excBase_ValueError (fun Y => PySem.HandSPX.refsVE_contains Y bm hbm) (I1.kIn _ _ hC) (PySem.W.looks_findIn I1.kIn iC) (fun self => PySem.W.bind_fn I1.kIn self tI) usz
    (codeAny_mono (F1.run _ X.stack _ _ ⟨Value.ref (hp.objs.size + 1) :: us, []⟩ _ _ _ E0 (hr.make C us []) (I2.env0.make C us []) bd rel want) fun r s2 y => ?_))
  rcases r with er | (_ | _ | _ | u)
  · exact y.elim
  · exact y.elim
  · exact y.elim
  · exact y.elim
  · obtain ⟨v, H2, I3, rv2, ev, q3⟩ := I2.after y
    cases ev
    exact ⟨rv2, .ref (hp.objs.size + 1), H2, I3, rfl, q3⟩

/-- an error at a, of the class at C -/
def IsErr (H : Hp) (a C : Addr) : Prop := H a = some (ExO (.ref C) a) ∨ ∃ d fs, H a = some (exo a C (some d)) ∧ H d = some (exd d fs)
theorem IsErr.keep {H H2 : Hp} {a C : Addr} (k : Same H H2) (h : IsErr H a C) : IsErr H2 a C := by
  rcases h with h | ⟨d, fs, h1, h2⟩
  · exact Or.inl (k _ _ h)
  · exact Or.inr ⟨d, fs, k _ _ h1, k _ _ h2⟩
/-- e.f of such an error -/
def tErrF (K : PySem.W.Frag) (f : Str) (te : TE) : TE := fun σ H Q => te σ H fun x H1 => ∃ a C d fs v, x = .ref a ∧ H1 a = some (exo a C (some d)) ∧ H1 d = some (exd d fs) ∧ XfC K C ∧ PySem.W.findIn K (.ref C) f = some none ∧ fs.lookup f = some v ∧ Q v H1
theorem pe_errF {n : Str} (he : PE X e te) (hb : attributeBase e n X.env (eval e X.env) = eval e X.env := by rfl) : PE X (.Attribute e n pos) (tErrF X.K n te) := by
  refine ⟨fun pins s σ H Q I h => attr_of hb (thn (he.run pins s σ H _ I h) fun u z y => ?_)⟩
  obtain ⟨v0, H1, I1, rx, a, C, d, fs, v, rfl, ea, ed, T, hno, hl, q⟩ := y
  cases rx
  obtain ⟨t1, ho⟩ := exo_at I1.hok ea
  obtain ⟨mA, hns, rl⟩ := exd_at I1.hok ed
  obtain ⟨od, hod, look⟩ := lookIn_ns hns
  obtain ⟨u, hu, ru⟩ := RelO.some_of (v := v) (o := mA n) (by rw [← hl]; exact rl n)
  have J : PySem.W.InstAt z.heap a _ C (some od) := ⟨ho, rfl, rfl, hod⟩
  exact HandSPX.exc_get I1.kIn J T.ga T.gg T.exC (PySem.W.findObj_own T.hdC hno rfl (by rw [look, hu])) (handed_of ru) ⟨v, H1, I1.tok _, ru, q⟩

/-- what isinstance asks of an error's class -/
def errB (K : PySem.W.Frag) (D : Addr) : Bool := xfB K D && ((PySem.W.clsIn K D).isSome && (decide (PySem.W.findIn K (.ref D) "__class__" = some (some (.builtin "object.__class__"))) && (decide (PySem.W.specialIn K (.builtin "object.__class__") "__get__" = some (some (.builtin "getset_descriptor.__get__"))) &&
  (decide (PySem.W.takesIn K (.builtin "object.__class__") = some true) && decide (PySem.W.mroIn K D (.type "object") = some true)))))
theorem kit_err {K : PySem.W.Frag} {D a : Addr} {ox : Obj} {od : Option Obj} (h : errB K D = true) : PySem.W.KitX K (.ref a) (.ref D) (fun h => PySem.W.InstAt h a ox D od) := by
  unfold errB at h
  simp only [Bool.and_eq_true, decide_eq_true_eq] at h
  obtain ⟨h1, h2, h3, h4, h5, h6⟩ := h
  have T := xfB_ok h1
  exact PySem.W.kitx_exc h2 T.ga T.gg T.exC h3 h4 h5 h6
/-- isinstance(e, c) of an error -/
def rIsErr (K : PySem.W.Frag) : List V → Hp → VK → Prop := fun xs H Q => ∃ (a D : Addr) (c : V) (cv : Value) (b : Bool), xs = [.ref a, c] ∧ (∀ u, RelV c u → u = cv) ∧ IsErr H a D ∧ errB K D = true ∧ PySem.W.kitOne K (.ref D) cv = some b ∧ Q (.bl b) H
theorem call_isErr : CallR X (.builtin "isinstance") (rIsErr X.K) := by
  intro pins s σ H xs us Q I r h
  obtain ⟨a, D, c, cv, b, rfl, hcv, he, hB, hk, q⟩ := h
  obtain ⟨u, v, rfl, ru, rc⟩ := r.two
  cases ru
  cases hcv v rc
  rcases he with he | ⟨d, fs, he, hd⟩
  · obtain ⟨⟨oe, vs, ho, hz, hdat, _⟩, _, _⟩ := I.hok a _ he
    have J : PySem.W.InstAt s.heap a oe D none := by
      obtain ⟨oc, od, oda, osl⟩ := oe
      obtain ⟨z1, z2⟩ := hz
      dsimp only at z1 z2 hdat
      cases z1
      cases z2
      cases hdat
      exact ⟨ho, rfl, rfl, trivial⟩
    exact PySem.W.kia_one (kit_err hB) I.kIn J hk (fun y => nomatch y) fun tk => ⟨.bl b, H, I.kept (t' := tk) fun _ _ y => y, rfl, q⟩
  · obtain ⟨t1, ho⟩ := exo_at I.hok he
    obtain ⟨mA, ⟨od, es, ep, hod, _⟩, _⟩ := exd_at I.hok hd
    have J : PySem.W.InstAt s.heap a _ D (some od) := ⟨ho, rfl, rfl, hod⟩
    exact PySem.W.kia_one (kit_err hB) I.kIn J hk (fun y => nomatch y) fun tk => ⟨.bl b, H, I.kept (t' := tk) fun _ _ y => y, rfl, q⟩

/-- xs.count(y), flat items -/
def rCntF (K : PySem.W.Frag) : V → List V → Hp → VK → Prop := fun x xs H Q => ∃ (p : Addr) (ys : List V) (y : V), x = .ref p ∧ xs = [y] ∧ SqL K H p ys ∧ flatV y = true ∧ ys.all flatV = true ∧ Q (.int (ys.countP (fun z => eqV z y) : Nat)) H
theorem cnt_eqU {x : V} : ∀ {xs : List V} {us : List Value}, Vals xs us → xs.all flatV = true → us.countP (eqU x) = xs.countP fun y => eqV y x
  | _, _, .nil, _ => rfl
  | y :: xs, u :: us, .cons r t, f => by
    rw [List.all_cons, Bool.and_eq_true] at f
    rw [List.countP_cons, List.countP_cons, cnt_eqU t f.2, eqU_of r f.1]
theorem mt_countF : MtR X "list.count" (rCntF X.K) := by
  intro pins s σ H x xs v us Q I rx rxs h
  obtain ⟨p, ys, y, rfl, rfl, hs, fy, fs, q⟩ := h
  cases rx
  obtain ⟨u, rfl, ru⟩ := rxs.one
  obtain ⟨its, rv, ⟨⟨cl, od, dt, sl⟩, n, ho, hc, hdn, hd⟩, hlen⟩ := I.list hs
  dsimp only at hc hd
  cases hc
  cases hd
  refine call_meets PySem.F.slot_list_count ⟨_, ho, rfl⟩ PySem.F.entry_list_count (PySem.F.args_list_count_2 _ _) (SeqAt.list_countAt p its.toArray n od sl u (eqU y)) ⟨ho, fun w hw => mem_eqAt ru fy rv fs w (by simpa using hw), ?_⟩
  refine ⟨.int (ys.countP (fun z => eqV z y) : Nat), H, I.tok _, ⟨s.toks, ?_⟩, q⟩
  have e : its.toArray.toList.countP (eqU y) = ys.countP (fun z => eqV z y) := cnt_eqU rv fs
  rw [e]
end
end Kv
namespace Kv
open PySem PySem.Spec PyProof.Rows L2

/-- the text of data -/
def Shows (K : PySem.W.Frag) (H : Hp) (x : V) (z : Str) : Prop :=
  (∃ d, Dp K H x d ∧ d.hasDict = false ∧ d.showable = true ∧ d.depth ≤ 60 ∧ d.shown.length ≤ sizeLine ∧ z = d.shown) ∨ ∃ a kvs, x = .ref a ∧ H a = some (.dK (kvI kvs)) ∧ (PyData.dict (kvD kvs)).showable = true ∧ (PyData.dict (kvD kvs)).shown.length ≤ sizeLine ∧ z = (PyData.dict (kvD kvs)).shown
theorem kv_reads {P : Program} {w : World} {h : Heap} : ∀ {kvs : List (Int × Int)} {vs : List (Key × Value)} {es : List DictEntry}, KV (kvI kvs) vs → Pairs (mixKind P w) es vs →
    ReadsAll h (es.map (·.key)) ((kvD kvs).map (·.1)) [] ∧ ReadsAll h (es.map (·.val)) ((kvD kvs).map (·.2)) []
  | [], _, _, kv, pr => by
    cases kv
    cases pr
    exact ⟨.nil, .nil⟩
  | p :: kvs, _, _, kv, pr => by
    cases kv with
    | cons hv kv =>
    cases pr with
    | cons hk he pr =>
    obtain ⟨a1, a2⟩ := kv_reads kv pr
    obtain ⟨e0, hv⟩ := hv
    rcases keyIs_shape hk with ⟨i, t, e1, e2⟩ | ⟨x, t, e1, e2⟩
    · have ei : i = p.1 := (Sum.inl.inj (e0.trans e1)).symm
      subst ei
      obtain ⟨t2, e3⟩ := hv
      refine ⟨?_, ?_⟩
      · rw [List.map_cons, e2]
        exact ReadsAll.cons (as := []) (bs := []) (Reads.int _ _) a1
      · rw [List.map_cons, he, e3]
        exact ReadsAll.cons (as := []) (bs := []) (Reads.int _ _) a2
    · cases e0.trans e1
theorem kvD_depth (kvs : List (Int × Int)) : (PyData.dict (kvD kvs)).depth ≤ 60 := by
  have h : ∀ l : List (Int × Int), PyData.depthKv (kvD l) = 0 := fun l => by
    induction l with
    | nil => rfl
    | cons p l ih =>
      show max (max (PyData.depth (.int p.1)) (PyData.depth (.int p.2))) (PyData.depthKv (kvD l)) = 0
      rw [ih]
      rfl
  show PyData.depthKv (kvD kvs) + 1 ≤ 60
  rw [h]
  decide
/-- repr(x) -/
def rRepr (K : PySem.W.Frag) : List V → Hp → VK → Prop := fun xs H Q => ∃ x z, xs = [x] ∧ Shows K H x z ∧ Q (.str z) H
theorem call_reprD {X : Cx} (hg : X.A.guards = some []) (hu : X.A.units + 100 < cLine) : CallR X (.builtin "repr") (rRepr X.K) := by
  intro pins s σ H xs us Q I r h
  obtain ⟨x, z, rfl, hz, q⟩ := h
  obtain ⟨u, rfl, ru⟩ := r.one
  have fin : ∀ tk t, EP X pins σ Q (.str z t) { s with toks := tk } := fun tk t => ⟨.str z, H, I.tok _, ⟨t, rfl⟩, q⟩
  have byRef : ∀ {a : Addr} {d : PyData} {as : List Addr}, Reads s.heap (.ref a) d as → d.showable = true → (d.hasDict = true → sysModules ∉ as) → d.depth ≤ 60 → d.shown.length ≤ sizeLine → z = d.shown →
      wpAny (model X.prog X.w) X.A (call (.builtin "repr") [.ref a]) (EP X pins σ Q) X.xe s := fun {a d as} rd hs hm hdep hl ez =>
    repr_of_reads' rd hs hm hg (by omega) (fun _ _ e => e) (fun h' t tk hk => ⟨.str d.shown, H, I.kept (t' := tk) hk, ⟨t, rfl⟩, by rw [← ez]; exact q⟩) hl
  rcases hz with ⟨d, hd, hn, hs, hdep, hl, ez⟩ | ⟨a, kvs, rfl, ha, hsh, hln, ez⟩
  · obtain ⟨as, rd⟩ := Dp.reads I d x u hd ru
    cases hd with
    | non =>
      cases ru
      cases ez
      exact PySem.P.repr_of_none (fin _ _)
    | bl b =>
      cases ru
      cases ez
      have e : (PyData.bool b).shown = (if b then "True" else "False" : Str) := PyData.shown_bool b
      exact PySem.P.repr_of_bool (by rw [← e]; exact fin _ _)
    | int i =>
      obtain ⟨t, rfl⟩ := ru
      cases ez
      exact PySem.P.repr_of_int (of_decide_eq_true hs) (fin _ _)
    | str y =>
      obtain ⟨t, rfl⟩ := ru
      cases ez
      exact PySem.P.repr_of_str (fin _ _) hl
    | lst _ _ =>
      cases ru
      exact byRef rd hs (PyData.noDict_hsm hn) hdep hl ez
    | tup _ _ =>
      cases ru
      exact byRef rd hs (PyData.noDict_hsm hn) hdep hl ez
  · cases ru
    obtain ⟨_, hne, vs, kv, o, es, ep, ho, hx, hd, _, he, _⟩ := I.hok a _ ha
    obtain ⟨r1, r2⟩ := kv_reads (P := X.prog) (w := X.w) (h := s.heap) kv he
    have rd : Reads s.heap (.ref a) (.dict (kvD kvs)) (a :: [] ++ []) := Reads.dict ho hx.1 hd r1 r2
    refine byRef rd hsh (fun _ hm => ?_) (kvD_depth kvs) hln ez
    have ea : sysModules = a := List.mem_singleton.mp hm
    rw [← ea] at hne
    exact absurd hne (by decide)
end Kv
/-! the data of right nets -/
namespace Kv
open PySem PySem.Spec PyProof.Rows L2
section
variable {K : PySem.W.Frag} {H : Hp}
mutual
theorem Th.dp : ∀ {d : PyData} {x : V}, Th H x d → d.hasDict = false → Dp K H x d
  | .none, _, h, _ => by cases h; exact .non
  | .bool b, _, h, _ => by cases h; exact .bl b
  | .int i, _, h, _ => by cases h; exact .int i
  | .str x, _, h, _ => by cases h; exact .str x
  | .list ds, _, h, n => by
    cases h with
    | lst ha h => exact .lst (SqL.of ha) (ThAll.dp h (by simpa [PyData.hasDict] using n))
  | .tuple ds, _, h, n => by
    cases h with
    | tup ha h hl => exact .tup (SqT.of ha) (ThAll.dp h (by simpa [PyData.hasDict] using n))
  | .dict _, _, h, n => by simp [PyData.hasDict] at n
theorem ThAll.dp : ∀ {ds : List PyData} {vs : List V}, ThAll H vs ds → PyData.hasDictAll ds = false → DpAll K H vs ds
  | [], _, h, _ => by cases h; exact .nil
  | d :: ds, _, h, n => by
    cases h with
    | cons h1 h2 =>
      simp only [PyData.hasDictAll, Bool.or_eq_false_iff] at n
      exact .cons (Th.dp h1 n.1) (ThAll.dp h2 n.2)
end
end
/-- data without dicts, not deep, short, of small numbers -/
structure Neat (n w : Nat) (d : PyData) : Prop where
  nd : d.hasDict = false
  sh : d.showable = true
  cl : d.canLay0 = true
  dp : d.depth ≤ n
  wt : d.weight ≤ w
  lv : d.leavesShort 80 = true
theorem Neat.mono {n m w z : Nat} {d : PyData} (h : Neat n w d) (h1 : n ≤ m) (h2 : w ≤ z) : Neat m z d := ⟨h.nd, h.sh, h.cl, Nat.le_trans h.dp h1, Nat.le_trans h.wt h2, h.lv⟩
theorem small : ∀ n < 101, (PyData.showable (.int (n : Nat)) && (PyData.leavesShort 80 (.int (n : Nat)) && decide (PyData.weight (.int (n : Nat)) ≤ 20))) = true := by decide +kernel
theorem neatInt {i : Int} (h0 : 0 ≤ i) (h1 : i ≤ 100) : Neat 0 20 (.int i) := by
  have e : i = ((i.toNat : Nat) : Int) := by omega
  have h := small i.toNat (by omega)
  rw [← e, Bool.and_eq_true, Bool.and_eq_true, decide_eq_true_eq] at h
  exact ⟨rfl, h.1, rfl, Nat.le_refl _, h.2.2, h.2.1⟩
/-- all of a list -/
structure NeatAll (n w : Nat) (ds : List PyData) : Prop where
  nd : PyData.hasDictAll ds = false
  sh : PyData.showableAll ds = true
  cl : PyData.canLayAll0 ds = true
  dp : PyData.depthAll ds ≤ n
  wt : PyData.weightAll ds ≤ w
  lv : PyData.leavesShortAll 80 ds = true
theorem NeatAll.nil {n w : Nat} : NeatAll n w [] := ⟨rfl, rfl, rfl, Nat.zero_le _, Nat.zero_le _, rfl⟩
theorem NeatAll.cons {n w z : Nat} {d : PyData} {ds : List PyData} (h : Neat n w d) (t : NeatAll n z ds) : NeatAll n (w + 1 + z) (d :: ds) := by
  refine ⟨?_, ?_, ?_, ?_, ?_, ?_⟩
  · simp only [PyData.hasDictAll, h.nd, t.nd, Bool.or_false]
  · simp only [PyData.showableAll, h.sh, t.sh, Bool.and_true]
  · simp only [PyData.canLayAll0, h.cl, t.cl, Bool.and_true]
  · have := h.dp
    have := t.dp
    simp only [PyData.depthAll]
    omega
  · have := h.wt
    have := t.wt
    simp only [PyData.weightAll]
    omega
  · simp only [PyData.leavesShortAll, h.lv, t.lv, Bool.and_true]
theorem NeatAll.tup {n w : Nat} {ds : List PyData} (h : NeatAll n w ds) : Neat (n + 1) w (.tuple ds) := by
  refine ⟨?_, ?_, ?_, ?_, ?_, ?_⟩
  · simp only [PyData.hasDict, h.nd]
  · simp only [PyData.showable, h.sh]
  · simp only [PyData.canLay0, h.cl]
  · have := h.dp
    simp only [PyData.depth]
    omega
  · have := h.wt
    simp only [PyData.weight]
    omega
  · simp only [PyData.leavesShort, h.lv]
theorem Neat.shaped {n w : Nat} {d : PyData} (h : Neat n w d) (hn : n ≤ 60) : SeqAt.shaped d = true := by
  unfold SeqAt.shaped
  rw [h.cl, Bool.true_and]
  exact decide_eq_true (by have := h.dp; omega)
theorem Neat.shows {n w : Nat} {K : PySem.W.Frag} {H : Hp} {d : PyData} {v : V} (h : Neat n w d) (hn : n ≤ 60) (hw : w ≤ 100000) (hd : Th H v d) : Shows K H v d.shown :=
  Or.inl ⟨d, hd.dp h.nd, h.nd, h.sh, Nat.le_trans h.dp hn, by
    have h1 := PyData.shown_le 80 (by decide) d h.lv
    have h2 := h.wt
    rw [sizeLine_eq]
    omega, rfl⟩
theorem isPr_inv {d : PyData} {m : Int} (h : isPr d m = true) : ∃ i j, d = .tuple [.int i, .int j] ∧ 0 ≤ i ∧ i ≤ m - 1 ∧ 0 ≤ j ∧ j ≤ m - 1 := by
  unfold isPr at h
  split at h
  · rename_i a b
    rw [Bool.and_eq_true, Bool.and_eq_true] at h
    obtain ⟨i, rfl, i0, i1⟩ := isBt_int h.1
    obtain ⟨j, rfl, j0, j1⟩ := isBt_int h.2.1
    exact ⟨i, j, rfl, i0, i1, j0, j1⟩
  · cases h
theorem neatPr {d : PyData} {m : Int} (hm : m ≤ 10) (h : isPr d m = true) : Neat 1 42 d := by
  obtain ⟨i, j, rfl, i0, i1, j0, j1⟩ := isPr_inv h
  exact (NeatAll.cons (neatInt i0 (by omega)) (NeatAll.cons (neatInt j0 (by omega)) NeatAll.nil (w := 20) (z := 0))).tup
theorem neatPrs {m : Int} (hm : m ≤ 10) : ∀ {ds : List PyData}, (∀ d ∈ ds, isPr d m = true) → NeatAll 1 (43 * ds.length) ds
  | [], _ => NeatAll.nil
  | d :: ds, h => by
    have a := NeatAll.cons (neatPr hm (h d List.mem_cons_self)) (neatPrs hm fun e he => h e (List.mem_cons_of_mem _ he))
    have e : 42 + 1 + 43 * ds.length = 43 * (d :: ds).length := by rw [List.length_cons]; omega
    rw [e] at a
    exact a
theorem firstBad_none {m : Int} : ∀ {ds : List PyData} {i : Nat}, firstBad m ds i = none → ∀ d ∈ ds, isPr d m = true
  | [], _, _, d, hd => nomatch hd
  | e :: ds, i, h, d, hd => by
    unfold firstBad at h
    cases hp : isPr e m with
    | false =>
      rw [hp] at h
      cases h
    | true =>
      rw [hp] at h
      rcases List.mem_cons.mp hd with z | z
      · rw [z]; exact hp
      · exact firstBad_none (ds := ds) h d z
/-- the parts of a right net, as data -/
structure Right (m r : Int) (ds : List PyData) : Prop where
  m0 : 2 ≤ m
  m1 : m ≤ 10
  r0 : 0 ≤ r
  r1 : r < m
  len : ds.length ≤ 60
  pr : ∀ d ∈ ds, isPr d m = true
theorem wv_inv {dx dy dz : PyData} (h : wrongV dx dy dz = .non) : ∃ m r ds, dx = .int m ∧ dy = .int r ∧ dz = .tuple ds ∧ Right m r ds := by
  unfold wrongV at h
  split at h
  · rename_i h1
    obtain ⟨m, rfl, m0, m1⟩ := isBt_int h1
    dsimp only at h
    split at h
    · rename_i h2
      obtain ⟨r, rfl, r0, r1⟩ := isBt_int h2
      split at h
      · rename_i ds
        split at h
        · cases h
        · rename_i h3
          split at h
          · cases h
          · rename_i h4
            exact ⟨m, r, ds, rfl, rfl, rfl, m0, m1, r0, by omega, by omega, firstBad_none h4⟩
      · cases h
    · cases h
  · cases h
theorem firstBad_of {m : Int} : ∀ {ds : List PyData} {i : Nat}, (∀ d ∈ ds, isPr d m = true) → firstBad m ds i = none
  | [], _, _ => rfl
  | e :: ds, i, h => by
    unfold firstBad
    rw [if_pos (h e List.mem_cons_self)]
    exact firstBad_of fun d hd => h d (List.mem_cons_of_mem _ hd)
theorem Right.wv {m r : Int} {ds : List PyData} (h : Right m r ds) : wrongV (.int m) (.int r) (.tuple ds) = .non := by
  refine wv_none ?_ ?_ (by have := h.len; omega) (firstBad_of h.pr)
  · show (decide (2 ≤ m) && decide (m ≤ 10)) = true
    rw [decide_eq_true h.m0, decide_eq_true h.m1]
    rfl
  · show (decide (0 ≤ r) && decide (r ≤ m - 1)) = true
    rw [decide_eq_true h.r0, decide_eq_true (show r ≤ m - 1 by have := h.r1; omega)]
    rfl
theorem Right.neatL {m r : Int} {ds : List PyData} (h : Right m r ds) : Neat 2 2600 (.tuple ds) := ((neatPrs h.m1 h.pr).tup).mono (Nat.le_refl _) (by have := h.len; omega)
theorem Right.neat {m r : Int} {ds : List PyData} (h : Right m r ds) : Neat 3 2700 (.tuple [.int m, .int r, .tuple ds]) := by
  have a := neatInt (i := m) (by have := h.m0; omega) (by have := h.m1; omega)
  have b := neatInt (i := r) h.r0 (by have := h.m1; have := h.r1; omega)
  exact ((NeatAll.cons (a.mono (Nat.zero_le 2) (Nat.le_refl _)) (NeatAll.cons (b.mono (Nat.zero_le 2) (Nat.le_refl _)) (NeatAll.cons h.neatL NeatAll.nil (z := 0)))).tup).mono (Nat.le_refl _) (by decide)
mutual
theorem eqv_self : ∀ d : PyData, d.hasDict = false → PyData.eqv d d = true
  | .none, _ => rfl
  | .bool b, _ => by simp [PyData.eqv]
  | .int i, _ => by simp [PyData.eqv]
  | .str x, _ => by simp [PyData.eqv]
  | .list ds, h => by simpa [PyData.eqv] using eqvAll_self ds (by simpa [PyData.hasDict] using h)
  | .tuple ds, h => by simpa [PyData.eqv] using eqvAll_self ds (by simpa [PyData.hasDict] using h)
  | .dict _, h => by simp [PyData.hasDict] at h
theorem eqvAll_self : ∀ ds : List PyData, PyData.hasDictAll ds = false → PyData.eqvAll ds ds = true
  | [], _ => rfl
  | d :: ds, h => by
    simp only [PyData.hasDictAll, Bool.or_eq_false_iff] at h
    simp only [PyData.eqvAll, eqv_self d h.1, eqvAll_self ds h.2, Bool.and_true]
end
end Kv
namespace Kv
open PySem PySem.Spec PyProof.Rows L2
/-! ### readings that give just these things -/
def ThX (te : TE) (σ : L2.St) (H : Hp) (d : PyData) : Prop := ∀ H1, Same H H1 → ∀ Q : VK, (∀ v H2, Same H1 H2 → Th H2 v d → Q v H2) → te σ H1 Q
def ThXA (ta : TA) (σ : L2.St) (H : Hp) (ds : List PyData) : Prop := ∀ H1, Same H H1 → ∀ Q : List V → Hp → Prop, (∀ vs H2, Same H1 H2 → ThAll H2 vs ds → Q vs H2) → ta σ H1 Q
section
variable {σ : L2.St} {H : Hp} {te ta tb : TE} {tr : TA} {d : PyData} {ds : List PyData}
theorem ThX.non : ThX (tC .non) σ H .none := fun H1 _ Q k => k _ H1 (Same.refl _) .non
theorem ThX.bl {b : Bool} : ThX (tC (.bl b)) σ H (.bool b) := fun H1 _ Q k => k _ H1 (Same.refl _) (.bl b)
theorem ThX.int {i : Int} : ThX (tC (.int i)) σ H (.int i) := fun H1 _ Q k => k _ H1 (Same.refl _) (.int i)
theorem ThX.str {x : Str} : ThX (tC (.str x)) σ H (.str x) := fun H1 _ Q k => k _ H1 (Same.refl _) (.str x)
theorem ThX.neg {i : Int} : ThX (tUn (rU fun i => .int (-i)) (tC (.int i))) σ H (.int (-i)) := fun H1 _ Q k => ⟨i, rfl, k _ H1 (Same.refl _) (.int (-i))⟩
theorem ThX.pow {i j : Int} (h : CPow i j) : ThX (tOp (rI CPow fun i j => .int (i ^ j.toNat)) (tC (.int i)) (tC (.int j))) σ H (.int (i ^ j.toNat)) := fun H1 _ Q k => ⟨i, j, rfl, rfl, h, k _ H1 (Same.refl _) (.int _)⟩
theorem ThX.var {i : Nat} {v : V} (e : σ[i]? = some (some v)) (h : Th H v d) : ThX (tVar i) σ H d := fun H1 s Q k => ⟨v, e, k _ H1 (Same.refl _) (h.keep s)⟩
theorem ThX.dic : ThX tDNewK σ H (.dict []) := fun H1 _ Q k p np => k _ _ (newS np) (.dic (kvs := []) upd_same (Nat.zero_le _))
theorem ThX.dic1 {i j : Int} : ThX (tDisp [(tC (.int i), tC (.int j))]) σ H (.dict [(.int i, .int j)]) := fun H1 _ Q k p np =>
  ⟨upd_same, [(Sum.inl i, .int j)], rfl, by show (1 : Nat) ≤ 15; decide, by
    rw [upd_upd]
    exact k _ _ (newS np) (.dic (kvs := [(i, j)]) upd_same (by show (1 : Nat) ≤ 100; decide))⟩
theorem ThXA.nil : ThXA tNil σ H [] := fun H1 _ Q k => k [] H1 (Same.refl _) .nil
theorem ThXA.cons (h : ThX te σ H d) (t : ThXA tr σ H ds) : ThXA (tCons te tr) σ H (d :: ds) := fun H1 s Q k => h H1 s _ fun v H2 s2 hv => t H2 (s.trans s2) _ fun vs H3 s3 hs => k (v :: vs) H3 (s2.trans s3) (.cons (hv.keep s3) hs)
theorem ThX.tup (h : ThXA tr σ H ds) (hn : ds.length ≤ 100 := by decide) : ThX (tTup tr) σ H (.tuple ds) := fun H1 s Q k => h H1 s _ fun vs H2 s2 hs => ⟨by rw [hs.length]; exact Nat.le_trans hn (by decide), fun p np => k _ _ (s2.trans (newS np)) (.tup upd_same (hs.keep (newS np)) (by rw [hs.length]; exact hn))⟩
theorem ThX.lst (h : ThXA tr σ H ds) (hn : ds.length ≤ 1000 := by decide) : ThX (tLst tr) σ H (.list ds) := fun H1 s Q k => h H1 s _ fun vs H2 s2 hs => ⟨by rw [hs.length]; exact Nat.le_trans hn (by decide), fun p np => k _ _ (s2.trans (newS np)) (.lst upd_same (hs.keep (newS np)))⟩
/-- a new list of just these things -/
theorem lstX {Q : VK} (h : ThXA tr σ H ds) (hn : ds.length ≤ 1000) (k : ∀ p vs H2, H p = none → Same H H2 → H2 p = some (.lst vs) → ThAll H2 vs ds → Q (.ref p) H2) : tLst tr σ H Q :=
  h H (Same.refl _) _ fun vs H2 s2 hs => ⟨by rw [hs.length]; exact Nat.le_trans hn (by decide), fun p np => k p vs _ (s2.free np) (s2.trans (newS np)) upd_same (hs.keep (newS np))⟩
theorem tupX {Q : VK} (h : ThXA tr σ H ds) (hn : ds.length ≤ 1000) (k : ∀ p vs H2, H p = none → Same H H2 → H2 p = some (.tup vs) → ThAll H2 vs ds → Q (.ref p) H2) : tTup tr σ H Q :=
  h H (Same.refl _) _ fun vs H2 s2 hs => ⟨by rw [hs.length]; exact Nat.le_trans hn (by decide), fun p np => k p vs _ (s2.free np) (s2.trans (newS np)) upd_same (hs.keep (newS np))⟩
end
/-- len of a list or tuple -/
abbrev rLenQ (K : PySem.W.Frag) : List V → Hp → VK → Prop := fun xs H Q => ∃ p ys, xs = [.ref p] ∧ (SqL K H p ys ∨ SqT K H p ys) ∧ Q (.int ys.length) H
theorem tup1 {te : TE} {σ : L2.St} {H : Hp} {Q : VK} (h : te σ H fun v H1 => [v].length ≤ sizeLine ∧ ∀ p, H1 p = none → Q (.ref p) (upd H1 p (.tup [v]))) : tTup (tCons te tNil) σ H Q := h
theorem opL {r : R2} {ta tb : TE} {σ : L2.St} {H : Hp} {Q : VK} (h : ta σ H fun x H1 => tb σ H1 fun y H2 => r x y H2 Q) : tOp r ta tb σ H Q := h
/-! ### things that may be shown -/
/-- short and flat enough that repr of it is told -/
def okD (d : PyData) : Bool := !d.hasDict && (d.showable && (d.canLay0 && (decide (d.depth ≤ 40) && (decide (d.weight ≤ 100000) && d.leavesShort 80))))
/-- data of a dict of a few small ints, or okD -/
def okT (d : PyData) : Bool := okD d || match d with
  | .dict kvs => kvs.length ≤ 3 && d.showable && decide (d.shown.length ≤ 1000) && kvs.all fun p => match p with
    | (.int _, .int _) => true
    | _ => false
  | _ => false
theorem okD_neat {d : PyData} (h : okD d = true) : Neat 40 100000 d := by
  unfold okD at h
  simp only [Bool.and_eq_true, Bool.not_eq_true', decide_eq_true_eq] at h
  obtain ⟨h1, h2, h3, h4, h5, h6⟩ := h
  exact ⟨h1, h2, h3, h4, h5, h6⟩
theorem neat_okD {n w : Nat} {d : PyData} (h : Neat n w d) (hn : n ≤ 40) (hw : w ≤ 100000) : okD d = true := by
  unfold okD
  rw [h.nd, h.sh, h.cl, decide_eq_true (Nat.le_trans h.dp hn), decide_eq_true (Nat.le_trans h.wt hw), h.lv]
  rfl
theorem Th.shows {K : PySem.W.Frag} {H : Hp} {d : PyData} {v : V} (h : Th H v d) (ok : okT d = true) : Shows K H v d.shown := by
  rcases Bool.or_eq_true_iff.mp ok with h1 | h1
  · exact (okD_neat h1).shows (by decide) (by decide) h
  · cases h with
    | dic ha hl =>
      rename_i a kvs
      simp only [Bool.and_eq_true, decide_eq_true_eq] at h1
      exact Or.inr ⟨a, kvs, rfl, ha, h1.1.1.2, Nat.le_trans h1.1.2 (by decide), rfl⟩
    | _ => cases h1
end Kv
/-! repr of things with dicts of ints in tuples -/
namespace Kv
open PySem PySem.Spec PyProof.Rows L2
mutual
/-- no list; each dict of ints -/
def plainD : PyData → Bool
  | .none | .bool _ | .int _ | .str _ => true
  | .list _ => false
  | .tuple xs => plainAll xs
  | .dict _ => true
def plainAll : List PyData → Bool
  | [] => true
  | x :: xs => plainD x && plainAll xs
end
section
variable {X : Cx} {pins : List (Addr × Obj)} {σ : L2.St} {H : Hp} {s : Shared}
mutual
theorem Th.readsP (I : Inv X pins σ H s) : ∀ (d : PyData) (v : V) (u : Value), Th H v d → plainD d = true → RelV v u → ∃ as, Reads s.heap u d as ∧ sysModules ∉ as
  | .none, _, _, h, _, r => by
    cases h
    cases r
    exact ⟨_, Reads.none, by simp⟩
  | .bool b, _, _, h, _, r => by
    cases h
    cases r
    exact ⟨_, Reads.bool b, by simp⟩
  | .int i, _, _, h, _, r => by
    cases h
    obtain ⟨t, rfl⟩ := r
    exact ⟨_, Reads.int i t, by simp⟩
  | .str x, _, _, h, _, r => by
    cases h
    obtain ⟨t, rfl⟩ := r
    exact ⟨_, Reads.str x t, by simp⟩
  | .list ds, _, _, h, p, r => by cases p
  | .tuple ds, _, _, h, p, r => by
    cases h with
    | tup hs ha hl =>
      cases r
      obtain ⟨its, rv, ⟨o, ho, hc, n, hd⟩, _⟩ := I.tuple (SqT.of hs)
      obtain ⟨as, hr, hm⟩ := Th.readsPAll I ds _ its ha p rv
      exact ⟨_, Reads.tuple ho hc hd hr, hm⟩
  | .dict kvs0, _, _, h, p, r => by
    cases h with
    | dic ha hl =>
      rename_i a kvs
      cases r
      obtain ⟨_, hne, vs, kv, o, es, ep, ho, hx, hd, _, he, _⟩ := I.hok a _ ha
      obtain ⟨r1, r2⟩ := kv_reads (P := X.prog) (w := X.w) (h := s.heap) kv he
      refine ⟨_, Reads.dict ho hx.1 hd r1 r2, fun hm => ?_⟩
      have ea : sysModules = a := List.mem_singleton.mp hm
      rw [← ea] at hne
      exact absurd hne (by decide)
theorem Th.readsPAll (I : Inv X pins σ H s) : ∀ (ds : List PyData) (vs : List V) (us : List Value), ThAll H vs ds → plainAll ds = true → Vals vs us → ∃ as, ReadsAll s.heap us ds as ∧ sysModules ∉ as
  | [], _, _, h, _, r => by
    cases h
    cases r
    exact ⟨_, ReadsAll.nil, by simp⟩
  | d :: ds, _, _, h, p, r => by
    have p2 : (plainD d && plainAll ds) = true := p
    rw [Bool.and_eq_true] at p2
    cases h with
    | cons h1 h2 =>
      cases r with
      | cons r1 r2 =>
        obtain ⟨as, q1, m1⟩ := Th.readsP I d _ _ h1 p2.1 r1
        obtain ⟨bs, q2, m2⟩ := Th.readsPAll I ds _ _ h2 p2.2 r2
        exact ⟨_, ReadsAll.cons q1 q2, fun hm => (List.mem_append.mp hm).elim m1 m2⟩
end
end
/-- without dicts; else without lists -/
def okB (b : Bool) (d : PyData) : Bool := if b then plainD d else !d.hasDict
def okBAll (b : Bool) (ds : List PyData) : Bool := if b then plainAll ds else !PyData.hasDictAll ds
structure Fit (b : Bool) (n L : Nat) (d : PyData) : Prop where
  ok : okB b d = true
  sh : d.showable = true
  dp : d.depth ≤ n
  ln : d.shown.length ≤ L
structure FitAll (b : Bool) (n L : Nat) (ds : List PyData) : Prop where
  ok : okBAll b ds = true
  sh : PyData.showableAll ds = true
  dp : PyData.depthAll ds ≤ n
  ln : ((PyData.shownAll ds).map (·.length)).sum + 2 * ds.length ≤ L
theorem Fit.mono {b : Bool} {n m L M : Nat} {d : PyData} (h : Fit b n L d) (h1 : n ≤ m) (h2 : L ≤ M) : Fit b m M d := ⟨h.ok, h.sh, Nat.le_trans h.dp h1, Nat.le_trans h.ln h2⟩
theorem FitAll.mono {b : Bool} {n m L M : Nat} {d : List PyData} (h : FitAll b n L d) (h1 : n ≤ m) (h2 : L ≤ M) : FitAll b m M d := ⟨h.ok, h.sh, Nat.le_trans h.dp h1, Nat.le_trans h.ln h2⟩
theorem FitAll.nil {b : Bool} {n : Nat} : FitAll b n 0 [] := ⟨by cases b <;> rfl, rfl, Nat.zero_le _, Nat.le_refl _⟩
theorem FitAll.cons {b : Bool} {n L M : Nat} {d : PyData} {ds : List PyData} (h : Fit b n L d) (t : FitAll b n M ds) : FitAll b n (L + 2 + M) (d :: ds) := by
  refine ⟨?_, ?_, ?_, ?_⟩
  · cases b with
    | true =>
      show (plainD d && plainAll ds) = true
      rw [show plainD d = true from h.ok, show plainAll ds = true from t.ok]
      rfl
    | false =>
      show (!(d.hasDict || PyData.hasDictAll ds)) = true
      rw [(Bool.not_eq_true' _).mp (show (!d.hasDict) = true from h.ok), (Bool.not_eq_true' _).mp (show (!PyData.hasDictAll ds) = true from t.ok)]
      rfl
  · show (d.showable && PyData.showableAll ds) = true
    rw [h.sh, t.sh]
    rfl
  · show max d.depth (PyData.depthAll ds) ≤ n
    have := h.dp
    have := t.dp
    omega
  · have h1 := h.ln
    have h2 := t.ln
    simp only [PyData.shownAll, List.map_cons, List.sum_cons, List.length_cons]
    omega
theorem FitAll.tup {b : Bool} {n L : Nat} {ds : List PyData} (h : FitAll b n L ds) : Fit b (n + 1) (L + 3) (.tuple ds) := by
  refine ⟨?_, ?_, ?_, ?_⟩
  · cases b with
    | true => exact h.ok
    | false => exact h.ok
  · exact h.sh
  · exact Nat.succ_le_succ h.dp
  · have h2 := tupleText_len_le (PyData.shownAll ds)
    have h3 := PyData.shownAll_length ds
    have h4 := h.ln
    have e : (PyData.tuple ds).shown = tupleText (PyData.shownAll ds) := by simp only [PyData.shown]
    rw [e]
    omega
theorem FitAll.lst {n L : Nat} {ds : List PyData} (h : FitAll false n L ds) : Fit false (n + 1) (L + 3) (.list ds) := by
  refine ⟨?_, ?_, ?_, ?_⟩
  · exact h.ok
  · exact h.sh
  · exact Nat.succ_le_succ h.dp
  · have h2 := listText_len_le (PyData.shownAll ds)
    have h3 := PyData.shownAll_length ds
    have h4 := h.ln
    have e : (PyData.list ds).shown = listText (PyData.shownAll ds) := by simp only [PyData.shown]
    rw [e]
    omega
/-- ints -/
theorem fitInts {b : Bool} : ∀ {zs : List Int}, (∀ z ∈ zs, 0 ≤ z ∧ z ≤ 100) → FitAll b 0 (1722 * zs.length) (zs.map PyData.int)
  | [], _ => FitAll.nil
  | z :: zs, h => by
    have n := neatInt (h z List.mem_cons_self).1 (h z List.mem_cons_self).2
    have l1 := PyData.shown_le 80 (by decide) (.int z) n.lv
    have w1 := n.wt
    have f : Fit b 0 1720 (.int z) := ⟨by cases b <;> rfl, n.sh, n.dp, by omega⟩
    have a := FitAll.cons f (fitInts (b := b) fun y hy => h y (List.mem_cons_of_mem _ hy))
    have e : 1720 + 2 + 1722 * zs.length = 1722 * (z :: zs).length := by rw [List.length_cons]; omega
    rw [e] at a
    exact a
theorem fitLot {b : Bool} {zs : List Int} (hl : zs.length ≤ 62) (h : ∀ z ∈ zs, 0 ≤ z ∧ z ≤ 100) : Fit b 1 106800 (.tuple (zs.map PyData.int)) := (fitInts (b := b) h).tup.mono (Nat.le_refl _) (by omega)
/-- lots ahead -/
theorem fitLots {b : Bool} {n L : Nat} {ds : List PyData} (hd : FitAll b (n + 1) L ds) : ∀ {ts : List (List Int)}, (∀ zs ∈ ts, zs.length ≤ 62 ∧ ∀ z ∈ zs, 0 ≤ z ∧ z ≤ 100) → FitAll b (n + 1) (106802 * ts.length + L) ((ts.map fun zs => PyData.tuple (zs.map PyData.int)) ++ ds)
  | [], _ => by
    have e : 106802 * ([] : List (List Int)).length + L = L := by simp
    rw [e]
    exact hd
  | t :: ts, h => by
    have a := FitAll.cons ((fitLot (b := b) (h t List.mem_cons_self).1 (h t List.mem_cons_self).2).mono (show 1 ≤ n + 1 by omega) (Nat.le_refl _)) (fitLots hd fun y hy => h y (List.mem_cons_of_mem _ hy))
    have e : 106800 + 2 + (106802 * ts.length + L) = 106802 * (t :: ts).length + L := by rw [List.length_cons]; omega
    rw [e] at a
    exact a
/-- okD is fit -/
theorem okT_fit {d : PyData} {v : V} {H : Hp} (h : okT d = true) (ht : Th H v d) : ∃ b, Fit b 40 8200100 d := by
  rcases Bool.or_eq_true_iff.mp h with h1 | h1
  · have n := okD_neat h1
    have l1 := PyData.shown_le 80 (by decide) d n.lv
    have w1 := n.wt
    exact ⟨false, by show (!d.hasDict) = true; rw [n.nd]; rfl, n.sh, n.dp, by omega⟩
  · cases ht with
    | dic ha hl =>
      rename_i a kvs
      simp only [Bool.and_eq_true, decide_eq_true_eq] at h1
      have hd : ∀ l : List (Int × Int), PyData.depthKv (kvD l) = 0 := fun l => by
        induction l with
        | nil => rfl
        | cons p l ih =>
          show max (max (PyData.depth (.int p.1)) (PyData.depth (.int p.2))) (PyData.depthKv (kvD l)) = 0
          rw [ih]
          rfl
      refine ⟨true, rfl, h1.1.1.2, ?_, Nat.le_trans h1.1.2 (by decide)⟩
      show PyData.depthKv (kvD kvs) + 1 ≤ 40
      rw [hd]
      decide
    | _ => cases h1
/-- a thing that repr shows -/
def Ts (H : Hp) (v : V) (d : PyData) : Prop := Th H v d ∧ ∃ b, Fit b 60 16000000 d
/-- repr(x) of such a thing -/
def rReprX (K : PySem.W.Frag) : List V → Hp → VK → Prop := fun xs H Q => ∃ x d, xs = [x] ∧ Ts H x d ∧ Q (.str d.shown) H
theorem call_reprX {X : Cx} (hg : X.A.guards = some []) (hu : X.A.units + 100 < cLine) : CallR X (.builtin "repr") (rReprX X.K) := by
  intro pins s σ H xs us Q I r h
  obtain ⟨x, d, rfl, ⟨hd, b, f⟩, q⟩ := h
  cases b with
  | false =>
    have nd : d.hasDict = false := (Bool.not_eq_true' _).mp f.ok
    exact call_reprD hg hu pins s σ H [x] us Q I r ⟨x, d.shown, rfl, Or.inl ⟨d, hd.dp nd, nd, f.sh, f.dp, Nat.le_trans f.ln (by rw [sizeLine_eq]; omega), rfl⟩, q⟩
  | true =>
    obtain ⟨u, rfl, ru⟩ := r.one
    have hp : plainD d = true := f.ok
    obtain ⟨as, rd, hm⟩ := Th.readsP I d x u hd hp ru
    have fin : ∀ tk t, EP X pins σ Q (.str d.shown t) { s with toks := tk } := fun tk t => ⟨.str d.shown, H, I.tok _, ⟨t, rfl⟩, q⟩
    have hl : d.shown.length ≤ sizeLine := Nat.le_trans f.ln (by rw [sizeLine_eq]; omega)
    have byRef : ∀ {a : Addr}, u = .ref a → wpAny (model X.prog X.w) X.A (call (.builtin "repr") [u]) (EP X pins σ Q) X.xe s := fun {a} e => by
      subst e
      exact repr_of_reads' rd f.sh (fun _ => hm) hg (by have := f.dp; omega) (fun _ _ e => e) (fun h' t tk hk => ⟨.str d.shown, H, I.kept (t' := tk) hk, ⟨t, rfl⟩, q⟩) hl
    cases hd with
    | non =>
      cases ru
      exact PySem.P.repr_of_none (fin _ _)
    | bl b =>
      cases ru
      have e : (PyData.bool b).shown = (if b then "True" else "False" : Str) := PyData.shown_bool b
      exact PySem.P.repr_of_bool (by rw [← e]; exact fin _ _)
    | int i =>
      obtain ⟨t, rfl⟩ := ru
      exact PySem.P.repr_of_int (of_decide_eq_true f.sh) (fin _ _)
    | str y =>
      obtain ⟨t, rfl⟩ := ru
      exact PySem.P.repr_of_str (fin _ _) hl
    | lst _ _ => cases hp
    | tup _ _ _ =>
      cases ru
      exact byRef rfl
    | dic _ _ =>
      cases ru
      exact byRef rfl
end Kv
/-! set(t) of a tuple of ints -/
namespace Kv
open PySem PySem.Spec PyProof.Rows L2
section
variable {P : Program} {w : World} {A : Around} {E : Value → Shared → Prop} {s : Shared}
theorem set_of_tup {l : Addr} {items : Array Value} {ns : List Int} {R : Value → Shared → Prop} (hh : A.handled = none) (hl : s.heap.IsTuple l items) (hit : IntsAre items.toList ns) (hb : ns.length + 1 < scanBound)
    (fin : ∀ (g : Heap) (tk c : Nat), SetR w g s.heap.objs.size (fun j => decide (j ∈ ns)) c → c ≤ ns.length → (∀ b o, s.heap.get? b = some o → g.get? b = some o) → R (.ref s.heap.objs.size) { s with heap := g, toks := tk }) :
    wpAny (model P w) A (call (.type "set") [.ref l]) R E s := by
  have many : items.size = ns.length := (Array.length_toList (xs := items)).symm.trans (IntsAre.length hit)
  have C := F.called_set
  obtain ⟨cl, tl, mro⟩ := C.mro
  obtain ⟨made, sub⟩ := And.intro C.made C.sub
  refine wpAny_call (codeAny_of_tree (show wpAny _ _ (callAny (.type "set") _) _ _ _ from wpAny_pure ⟨Code.quiet_builtin _ (by decide +kernel), codeAny_builtin F.entry_type_call ?_⟩))
  rw [Around.under_plain (weight_type_call_type "set" [.ref l] []) rfl]
  obtain ⟨c1, c2, c3⟩ := And.intro C.notType (And.intro C.canCreate (F.typeCall_set_1 (.ref l)))
  repeat (any_goals (first | assumption | wp_step))
  let made1 : Shared := { s with heap := s.heap.push (bareSet w) }
  refine codeAny_mono (code_set_led1 (.ref l) (E := E) (Q₁ := fun u z => u = .ref s.heap.objs.size ∧ z = made1) ⟨rfl, rfl⟩) fun r z hr => ?_
  rcases r with er | (_ | _ | _ | u)
  · exact hr
  · exact hr.elim
  · exact hr.elim
  · exact hr.elim
  obtain ⟨rfl, rfl⟩ := hr
  have at0 : (s.heap.push (bareSet w)).get? s.heap.objs.size = some (bareSet w) := Heap.get?_push_size _ rfl
  have ty0 : Shared.TypeIs made1 (.ref s.heap.objs.size) "set" := ⟨_, at0, rfl⟩
  obtain ⟨il, ib⟩ := And.intro C.init.lookup (C.init.bind (.ref s.heap.objs.size))
  repeat (any_goals (first | assumption | wp_step))
  let done : Value → Shared → Prop := fun r z => r = .none ∧ ∃ g tk c, z = { s with heap := g, toks := tk } ∧ SetR w g s.heap.objs.size (fun j => decide (j ∈ ns)) c ∧ c ≤ ns.length ∧ ∀ b o, s.heap.get? b = some o → g.get? b = some o
  refine codeAny_mono (codeAny_call_builtin (R := wants done E) C.init.plain F.entry_set_init (check_set_init_1 ty0 ?_)) fun r z hr => ?_
  · obtain ⟨⟨oc, od, odt, osl⟩, gl, hc, nl, hd⟩ := hl
    dsimp only at hc hd
    cases hc
    cases hd
    have at1 : (s.heap.push (bareSet w)).get? l = some { cls := .type "tuple", dict := od, data := .seq items nl, slots := osl } := Heap.get?_push_of_some _ gl
    have is1 : (s.heap.push (bareSet w)).IsTuple l items := ⟨_, at1, rfl, nl, rfl⟩
    obtain ⟨t1, t2⟩ := And.intro F.sub_tuple_set F.sub_tuple_frozenset
    have t3 : (Value.type "tuple" == Value.type "dict") = false := by decide
    unfold Builtin.«set.__init__» noKeywords Builtin.Frozenset.updateFrom
    generalize hw : pyIter = walkOf
    wp_walk
    subst hw
    refine wpAny_pyIter_tuple is1 (wpAny_bind (wpAny_runValue ?_))
    have size1 : (s.heap.push (bareSet w)).objs.size = s.heap.objs.size + 1 := Heap.size_push ..
    have lt1 : l < s.heap.objs.size := Heap.lt_size gl
    have apart : l ≠ (s.heap.push (bareSet w)).objs.size := by rw [size1]; exact Nat.ne_of_lt (Nat.lt_succ_of_lt lt1)
    have calm3 : A.in1.in1.in1.handled = none := by simp [hh]
    refine set_update_ints ((Walks.tuple calm3 _ l apart items).toS) s.heap.objs.size (fun hm => ?_) ns many hb (fun i v hv => ?_) (items.size - 0) 0 _ (by omega) (Nat.zero_le _) ⟨⟨_, Heap.get?_push_size _ rfl, rfl, rfl⟩, is1.push _⟩ ?_ ?_
    · rw [size1] at hm
      rcases List.mem_cons.mp hm with q | q
      · exact Nat.ne_of_lt (Nat.lt_succ_self _) q
      · exact Nat.ne_of_gt lt1 (List.mem_singleton.mp q)
    · have lt : i < ns.length := by rw [← many]; exact (Array.getElem?_eq_some_iff.mp hv).1
      obtain ⟨t, e⟩ := PyProof.Rows.IntsAre.int_at hit i v (by rw [Array.getElem?_toList]; exact hv)
      refine ⟨ns[i], t, List.getElem?_eq_getElem lt, e.trans ?_⟩
      rw [List.getD_eq_getElem?_getD, List.getElem?_eq_getElem lt]
      rfl
    · exact ⟨0, Nat.le_refl 0, setR_new_at (Heap.get?_push_of_some _ at0)⟩
    · rintro ⟨g, gs, dr, tk, io⟩ c mv hc hS
      obtain ⟨e1, e2, e3⟩ := And.intro mv.gens (And.intro mv.drawn mv.os)
      dsimp only at e1 e2 e3
      cases (show gs = s.gens from e1)
      cases (show dr = s.drawn from e2)
      cases (show io = s.os from e3)
      show wpAny _ _ _ _ _ _
      refine wpAny_pure ?_
      show wpAny _ _ (ret Value.none) _ _ _
      refine wpAny_pure ⟨rfl, g, tk, c, rfl, hS, by rw [← many]; exact hc, fun b o e => mv.heap b o (fun hm => ?_) (Heap.get?_push_of_some _ (Heap.get?_push_of_some _ e))⟩
      have lb := Heap.lt_size e
      rcases List.mem_cons.mp hm with q | q
      · exact Nat.ne_of_lt lb q
      · have q2 := List.mem_singleton.mp q
        rw [size1] at q2
        exact Nat.ne_of_lt (Nat.lt_succ_of_lt lb) q2
  · rcases r with er | (_ | _ | _ | u)
    · exact hr
    · exact hr.elim
    · exact hr.elim
    · exact hr.elim
    obtain ⟨rfl, g, tk, c, rfl, hS, hc, kp⟩ := hr
    repeat (any_goals (first | assumption | wp_step))
    exact fin g tk c hS hc kp
end
/-- set(t): which ints are in, how many -/
def rSetT (K : PySem.W.Frag) (w : World) : List V → Hp → VK → Prop := fun xs H Q => ∃ (l : Addr) (ns : List Int), xs = [.ref l] ∧ SqT K H l (ns.map V.int) ∧ ns.length ≤ 1000 ∧
  ∀ a n, H a = none → n ≤ ns.length → Q (.ref a) (upd H a (SetO w a (fun j => decide (j ∈ ns)) n))
theorem cr_setT {X : Cx} (hc : X.calm = true) : CallR X (.type "set") (rSetT X.K X.w) := by
  intro pins s σ H xs us Q I r h
  obtain ⟨l, ns, rfl, hs, hn, q⟩ := h
  rw [Vals.ref1 r]
  obtain ⟨its, rv, isT, _⟩ := I.tuple hs
  refine set_of_tup (I.ok.hd hc) (show s.heap.IsTuple l its.toArray from isT) (by simpa using intsAre_of rv) (by unfold scanBound; omega) fun g tk c hS hc kp => ?_
  have free : H s.heap.objs.size = none := I.hok.fresh (Nat.le_refl _)
  exact ⟨.ref _, _, I.laid (t' := tk) kp (Nat.le_refl _) (setO_new hS), rfl, q _ c free hc⟩
end Kv
/-! enumerate over a tuple -/
namespace Kv
open PySem PySem.Spec PyProof.Rows L2
/-- the record that enumerate makes over the iterator at j -/
abbrev enO (j : Addr) : Obj := { cls := .type "enumerate", data := .fields #[.none, .bool false, .ref j, rawInt 0, .none, .none] }
theorem new_enum1 {v : Value} {src : Obj} {Pre : Heap → Prop} (B : Begins v src Pre) :
    Meets (Builtin.«enumerate.__new__» ⟨[.type "enumerate", v], []⟩) (fun _ R z => Pre z.heap ∧ R (.ok (.ret (.ref (z.heap.push src).objs.size))) { z with heap := (z.heap.push src).push (enO z.heap.objs.size) }) :=
  .of_wp fun prog w A R z pre => by
    obtain ⟨h0, gs, dr, k, io⟩ := z
    obtain ⟨ok, back⟩ := pre
    have subE := sub_enumerate
    have start : ∀ {A2 : Around} {X2 : Value → Shared → Prop} {Q2 : Value → Shared → Prop}, Q2 (.ref h0.objs.size) ⟨h0.push src, gs, dr, k, io⟩ → wpAny (model prog w) A2 (pyIter v) Q2 X2 ⟨h0, gs, dr, k, io⟩ := fun y => B.iter prog w _ _ ⟨h0, gs, dr, k, io⟩ _ ok y
    wp_walk using start
    refine wpAny_stack_any fun _ => wpAny_pure ?_
    split
    · rename_i cl _ _ _ _ _
      cases (cl == Value.type "enumerate") <;> (wp_walk using start; exact ⟨_, rfl, back⟩)
    · wp_walk using start
      exact ⟨_, rfl, back⟩
section
variable {prog : Program} {w : World} {A : Around} {X0 : Value → Shared → Prop} {z : Shared}
theorem call_enum1 {v : Value} {src : Obj} {Pre : Heap → Prop} {Q : Value → Shared → Prop} (B : Begins v src Pre) (ok : Pre z.heap)
    (fin : ∀ h2, IsEnum h2 (z.heap.objs.size + 1) z.heap.objs.size 0 .none → h2.get? z.heap.objs.size = some src → (∀ b o, z.heap.get? b = some o → h2.get? b = some o) → Q (.ref (z.heap.objs.size + 1)) { z with heap := h2 }) :
    wpAny (model prog w) A (call (.type "enumerate") [v]) Q X0 z := by
  refine callType_new F.called_enumerate (by decide) (F.typeCall_enumerate_1 _) (F.newCall_enumerate_1 _) (fun obj => F.args_object_init_2 obj _) F.entry_enumerate_new (new_enum1 B) ⟨ok, ?_⟩
  have n1 : (z.heap.push src).objs.size = z.heap.objs.size + 1 := Heap.size_push ..
  have made : ((z.heap.push src).push (enO z.heap.objs.size)).get? (z.heap.objs.size + 1) = some (enO z.heap.objs.size) := by
    rw [← n1]
    exact Heap.get?_push_size _ rfl
  rw [n1]
  exact ⟨⟨_, made, rfl⟩, fin _ made (Heap.get?_push_of_some _ (Heap.get?_push_size _ B.free)) fun b o y => Heap.get?_push_of_some _ (Heap.get?_push_of_some _ y)⟩
end
/-- at each turn a new pair of the number and the tuple's item -/
def IteT (K : PySem.W.Frag) (a : Addr) : It :=
  ⟨fun i H => ∃ (xs : List V) (x : V), SqT K H a xs ∧ xs[i]? = some x, fun i H v H' => ∃ T x, v = .ref T ∧ H T = none ∧ H' = upd H T (.tup [.int (i : Nat), x]) ∧ ∀ xs, SqT K H a xs → xs[i]? = some x, fun i H => ∃ xs : List V, SqT K H a xs ∧ xs.length ≤ i⟩
/-- how the enumerate object c over the iterator j over the tuple a stands at turn i -/
def EnSt (c j a : Addr) (i : Nat) (h : Heap) : Prop := (∃ last, IsEnum h c j ((i : Nat) : Int) last) ∧ h.IsTupleIter j a i ∧ c ≠ j
theorem two {c j b : Addr} (hb : b ∈ [c, j]) : b = c ∨ b = j := by simpa using hb
theorem en_apart {h : Heap} {c j a : Addr} {k : Int} {last : Value} {i : Nat} {its : Array Value} (hc : IsEnum h c j k last) (hj : h.IsTupleIter j a i) (ht : h.IsTuple a its) : a ≠ j ∧ c ≠ a := by
  obtain ⟨ot, gt, ct, _⟩ := ht
  refine ⟨fun y => ?_, fun y => ?_⟩
  · obtain ⟨oj, gj, cj, _⟩ := hj
    rw [y, gj] at gt
    have eo : oj = ot := Option.some.inj gt
    rw [← eo, cj] at ct
    exact absurd ct (by decide)
  · rw [← y, show h.get? c = _ from hc] at gt
    have eo := (Option.some.inj gt).symm
    rw [eo] at ct
    exact absurd (show Value.type "enumerate" = Value.type "tuple" from ct) (by decide)
theorem turn_enumT {P : Program} {w : World} {K : PySem.W.Frag} {elts : List Expr} {kk : Nat} {tpos : Pos} (a c j : Addr) : Turn P w K (.Tuple elts kk tpos) (IteT K a) [c, j] c (EnSt c j a) where
  mem := List.mem_cons_self
  obj := fun i h st b hb => by
    obtain ⟨⟨last, hc⟩, ⟨oj, gj, _, dj⟩, _⟩ := st
    rcases two hb with y | y <;> rw [y]
    · exact ⟨_, hc, fun v q => nomatch q⟩
    · exact ⟨oj, gj, fun v q => by rw [dj] at q; cases q⟩
  keep := fun i h h2 st kp => ⟨⟨st.1.choose, kp c (by simp) _ st.1.choose_spec⟩, st.2.1.at fun o y => kp j (by simp) o y, st.2.2⟩
  item := by
    rintro X rfl rfl rfl calm i pins s σ H E I fp ⟨⟨last, hc⟩, hj, ncj⟩ ⟨xs, x, hx, xi⟩
    obtain ⟨its, rv, isT, _⟩ := I.tuple hx
    obtain ⟨u, ui, ru⟩ := rv.get xi
    have tup : s.heap.IsTuple a its.toArray := isT
    obtain ⟨naj, nca⟩ := en_apart hc hj tup
    have cs : c < s.heap.objs.size := Heap.lt_size hc
    have js : j < s.heap.objs.size := Heap.lt_size hj.choose_spec.1
    have inR : i < its.toArray.size := by simpa using (List.getElem?_eq_some_iff.mp ui).1
    have out : c ∉ [j, a] := fun y => (List.mem_cons.mp y).elim ncj fun y => nca (List.mem_singleton.mp y)
    refine wpAny_pyNext_enum_itemD (Draws.tuple (A := X.A.in1) (show X.A.in1.handled = none from I.ok.hd calm) j a naj its.toArray) hc ⟨hj, tup⟩ inR ncj out fun u2 h2 tk hu2 gave st2 newT _ kept => ?_
    have same : u2 = u := Option.some.inj ((show its[i]? = some u2 by simpa using hu2).symm.trans ui)
    subst same
    refine ⟨_, rfl, wpAny_letOwnedTupleGo_enum (s := { s with heap := h2, toks := tk + 1 }) gave fun h3 hc3 only => ?_⟩
    have newT3 := (only.2 _ (Nat.ne_of_gt cs)).trans newT
    have kept3 : ∀ b o, b ∉ [c, j] → s.heap.get? b = some o → h3.get? b = some o := fun b o nb y => by
      have n1 : b ≠ c := fun e => nb (by simp [e])
      have n2 : b ≠ j := fun e => nb (by simp [e])
      exact (only.2 b n1).trans (kept b o n1 n2 y)
    have J : Inv X pins σ (upd H s.heap.objs.size (.tup [.int (i : Nat), x])) { s with heap := h3, toks := tk + 1 } :=
      I.turnedNew kept3 fp (Nat.le_refl _) ⟨by show 2 ≤ sizeLine; decide, _, .cons ⟨tk, rfl⟩ (.cons ru .nil), ⟨_, newT3, rfl, _, rfl⟩⟩
    refine ⟨.ref s.heap.objs.size, _, J, rfl, ⟨_, x, rfl, I.hok.fresh (Nat.le_refl _), rfl, fun ys hy => by rw [I.tuple_inj hy hx]; exact xi⟩, ⟨⟨u2, ?_⟩, st2.1.at fun o y => (only.2 j (Ne.symm ncj)).trans y, ncj⟩, fun b hb => ?_⟩
    · rw [show ((i + 1 : Nat) : Int) = (i : Int) + 1 by omega]
      exact hc3
    · have lt : b < s.heap.objs.size := (two hb).elim (fun y => y ▸ cs) fun y => y ▸ js
      rw [upd_ne (Nat.ne_of_lt lt)]
      exact (fp b hb).1
  done := by
    rintro X rfl rfl rfl calm i pins s σ H E I fp ⟨⟨last, hc⟩, hj, ncj⟩ ⟨xs, hx, le⟩
    obtain ⟨its, rv, isT, _⟩ := I.tuple hx
    have len := rv.length
    obtain ⟨a0, a1, a2, a3, a4, a5⟩ := fp j (by simp)
    have ty : s.TypeIs (.ref c) "enumerate" := ⟨_, hc, rfl⟩
    unfold pyNext
    refine wpAny_bind (wpAny_attempt (wpAny_callSpecial?_slot (name := Str.ofString "__next__") ty F.slot_enumerate_next (wpAny_call_entry F.slot_enumerate_next ty F.entry_enumerate_next ?_ (F.args_enumerate_next_1 _))))
    show wpAny _ _ (field (.ref c) 2 >>= _) _ _ _
    refine wpAny_bind (wpAny_field hc rfl (x := .ref j) rfl (wpAny_bind (wpAny_nextOf_tuple_end (I.ok.hd calm) hj (show s.heap.IsTuple a its.toArray from isT) (by simp; omega) fun h2 er kept stop => ?_)))
    exact wpAny_bind (wpAny_isInstance (T := "StopIteration") (b := true) stop isSubtype_stop (wpAny_pure ⟨rfl, I.turned (t' := s.toks) (fun b o nb y => kept b o nb y) a0 a1 a3 a4 a5⟩))
  self := fun A i s Q E st y => wpAny_pyIter_enum st.1.choose_spec y
def iEnumT (K : PySem.W.Frag) (ta : TA) : TI := fun σ H R => ta σ H fun vs H1 => ∃ a xs, vs = [.ref a] ∧ SqT K H1 a xs ∧ R (IteT K a) H1
theorem pi_enumT {X : Cx} {e : Expr} {ta : TA} {p pos tpos : Pos} {elts : List Expr} {kk : Nat} (hg : Gl X "enumerate") (hm : X.mg "enumerate" = none) (ha : PA X [e] ta) (hs : starEach [e] X.env = [(false, eval e X.env)] := by rfl) :
    PI X (.Tuple elts kk tpos) (.Call (.Name "enumerate" p) [e] [] pos) (iEnumT X.K ta) := by
  refine ⟨fun pins s σ H R I h => ?_⟩
  refine Call_ (ld_blt I hg hm boot_enumerate (PyProof.Rows.callWith_type1 (thn (ha.run pos pins s σ H _ I h) fun us t y => ?_) hs rfl))
  obtain ⟨vs, G, J, rel, a, xs, rfl, hx, q⟩ := y
  obtain ⟨u, rfl, ru⟩ := rel.one
  cases ru
  obtain ⟨its, rv, isT, _⟩ := J.tuple hx
  refine call_enum1 (begins_tuple a its.toArray) (show t.heap.IsTuple a its.toArray from isT) fun h2 hc hj kept => wpAny_pyIter_enum hc ?_
  refine ⟨t.heap.objs.size + 1, [t.heap.objs.size + 1, t.heap.objs.size], _, _, G, rfl, J.kept (t' := t.toks) kept, turn_enumT a _ _, ⟨⟨.none, hc⟩, ⟨_, hj, rfl, rfl⟩, Nat.succ_ne_self _⟩, fun b hb => ?_, q⟩
  have above : t.heap.objs.size ≤ b := (two hb).elim (fun y => by rw [y]; exact Nat.le_succ _) fun y => by rw [y]; exact Nat.le_refl _
  exact J.fpOk above (J.hok.fresh above)
theorem walk_enumT {K : PySem.W.Frag} {a : Addr} {xs : List V} : Walk (IteT K a) xs.length (fun H => H a = some (.tup xs)) (YPair (fun i => some (.int (i : Nat))) (fun i => xs[i]?)) where
  goes := fun i H hi h => ⟨xs, xs[i], SqT.of h, List.getElem?_eq_getElem hi⟩
  stops := fun H h => ⟨xs, SqT.of h, Nat.le_refl _⟩
  yields := fun i H x H' hi h y => by
    obtain ⟨T, x2, ev, hT, eH, hx⟩ := y
    exact ⟨T, _, x2, ev, hT, eH, rfl, hx xs (SqT.of h)⟩
end Kv
/-! isinstance of the caught error, without fields too; several classes -/
namespace Kv
open PySem PySem.Spec PyProof.Rows L2
/-- the caught error's class, and its own dict, if it has one -/
def ErrIs (K : PySem.W.Frag) (cls : Value) (d : Option Addr) (D : Addr) (H : Hp) : Prop := cls = .ref D ∧ errB K D = true ∧ (d = none ∨ ∃ dd fs, d = some dd ∧ H dd = some (.xd fs))
section
variable {X : Cx} {a : Addr} {oe : Obj} {cls : Value} {d : Option Addr} {pn : List (Addr × Obj)}
theorem errAt {pins : List (Addr × Obj)} {σ : L2.St} {H : Hp} {s : Shared} {D : Addr} (hz : Zc cls d oe) (hf : ∃ vs, oe.data = .fields vs) (I : Inv (X.suite a ((a, oe) :: pn)) pins σ H s) (h : ErrIs X.K cls d D H) : ∃ od, PySem.W.InstAt s.heap a oe D od := by
  obtain ⟨rfl, hB, hd⟩ := h
  obtain ⟨there, _⟩ := I.pin (a, oe) (List.mem_append_left _ List.mem_cons_self)
  obtain ⟨vs, hv⟩ := hf
  have plain : PySem.W.notCls oe = true := by
    unfold PySem.W.notCls
    rw [hv]
  rcases hd with rfl | ⟨dd, fs, rfl, hx⟩
  · refine ⟨none, there, hz.1, plain, ?_⟩
    rw [hz.2]
    trivial
  · obtain ⟨mA, hns, _⟩ := (show ObjOk X.prog X.w H s.heap dd (.xd fs) from I.hok dd _ hx)
    obtain ⟨od, ho, _⟩ := lookIn_ns hns
    refine ⟨some od, there, hz.1, plain, ?_⟩
    rw [hz.2]
    exact ho
def rIsC (K : PySem.W.Frag) (a : Addr) (cls : Value) (d : Option Addr) : List V → Hp → VK → Prop := fun xs H Q => ∃ (D : Addr) (c : V) (cv : Value) (b : Bool), ErrIs K cls d D H ∧ xs = [.ref a, c] ∧ ClsV c cv ∧ PySem.W.kitOne K (.ref D) cv = some b ∧ Q (.bl b) H
theorem call_isC (hz : Zc cls d oe) (hf : ∃ vs, oe.data = .fields vs) : CallR (X.suite a ((a, oe) :: pn)) (.builtin "isinstance") (rIsC X.K a cls d) := by
  intro pins s σ H xs us Q I r h
  obtain ⟨D, c, cv, b, he, rfl, hc, hk, q⟩ := h
  obtain ⟨u, v, rfl, ru, rc⟩ := r.two
  cases ru
  cases hc.eq rc
  obtain ⟨od, J⟩ := errAt hz hf I he
  exact PySem.W.kia_one (kit_err he.2.1) I.kIn J hk (fun y => nomatch y) fun tk => ⟨.bl b, H, I.kept (t' := tk) fun _ _ y => y, rfl, q⟩
/-- isinstance(e, (C1, C2)) -/
def rIsCT (K : PySem.W.Frag) (a : Addr) (cls : Value) (d : Option Addr) : List V → Hp → VK → Prop := fun xs H Q => ∃ (D tp : Addr) (cs : List V) (ws : List Value) (b : Bool), ErrIs K cls d D H ∧ xs = [.ref a, .ref tp] ∧ H tp = some (.tup cs) ∧ Paired ClsV cs ws ∧ PySem.W.kitAny K (.ref D) ws = some b ∧ Q (.bl b) H
theorem call_isCT (hz : Zc cls d oe) (hf : ∃ vs, oe.data = .fields vs) : CallR (X.suite a ((a, oe) :: pn)) (.builtin "isinstance") (rIsCT X.K a cls d) := by
  intro pins s σ H xs us Q I r h
  obtain ⟨D, tp, cs, ws, b, he, rfl, hT, hc, hk, q⟩ := h
  obtain ⟨u, v, rfl, ru, rc⟩ := r.two
  cases ru
  cases (show v = Value.ref tp from rc)
  obtain ⟨od, J⟩ := errAt hz hf I he
  obtain ⟨_, its, rv, ⟨oc, oo, dt, sl⟩, h1, h2, n, h3⟩ := (show ObjOk X.prog X.w H s.heap tp (.tup cs) from I.hok tp _ hT)
  have e := ClsV.all hc rv
  subst e
  dsimp only at h2 h3
  subst h2 h3
  exact PySem.W.kia_tup (kit_err he.2.1) I.kIn J h1 hk (fun y => nomatch y) fun tk => ⟨.bl b, H, I.kept (t' := tk) fun _ _ y => y, rfl, q⟩
end
end Kv
/-! sorted of tuples of ints and of tuples of ints, of any number -/
namespace Kv
open PySem PySem.Spec PyProof.Rows L2
abbrev It := Int ⊕ List Int
def itLt : It → It → Bool
  | .inl a, .inl b => decide (a < b)
  | .inr a, .inr b => HT.lexLt a b
  | .inl _, .inr _ => true
  | .inr _, .inl _ => false
theorem lexTot : ∀ xs ys : List Int, HT.lexLt xs ys = false → HT.lexLt ys xs = false → xs = ys
  | [], [], _, _ => rfl
  | [], _ :: _, h, _ => by rw [HT.lexLt_nil_cons] at h; cases h
  | _ :: _, [], _, h => by rw [HT.lexLt_nil_cons] at h; cases h
  | x :: xs, y :: ys, h1, h2 => by
    rw [HT.lexLt_cons] at h1 h2
    by_cases e : x = y
    · rw [if_pos e] at h1
      rw [if_pos e.symm] at h2
      rw [e, lexTot xs ys h1 h2]
    · rw [if_neg e] at h1
      rw [if_neg (Ne.symm e)] at h2
      have a := of_decide_eq_false h1
      have b := of_decide_eq_false h2
      omega
theorem itLt_swo : SrtO.Swo itLt := by
  refine ⟨fun x y h => ?_, fun x y z h1 h2 => ?_⟩
  · cases x <;> cases y
    · have a := of_decide_eq_true (show decide _ = true from h)
      exact decide_eq_false (show ¬ _ by omega)
    · rfl
    · cases h
    · exact NtL.lex_asym _ _ h
  · cases x <;> cases y <;> cases z
    · have a := of_decide_eq_false (show decide _ = false from h1)
      have b := of_decide_eq_false (show decide _ = false from h2)
      exact decide_eq_false (show ¬ _ by omega)
    · rfl
    · cases h2
    · rfl
    · cases h1
    · cases h1
    · cases h2
    · exact NtL.lex_tr _ _ _ h1 h2
theorem itLt_tot : ∀ {x y : It}, itLt x y = false → itLt y x = false → x = y
  | .inl a, .inl b, h1, h2 => by
    have a := of_decide_eq_false (show decide _ = false from h1)
    have b := of_decide_eq_false (show decide _ = false from h2)
    exact congrArg Sum.inl (by omega)
  | .inr a, .inr b, h1, h2 => congrArg Sum.inr (lexTot _ _ h1 h2)
  | .inl _, .inr _, h1, _ => by cases h1
  | .inr _, .inl _, _, h2 => by cases h2
def itsLt : List It → List It → Bool
  | [], [] => false
  | [], _ :: _ => true
  | _ :: _, [] => false
  | x :: xs, y :: ys => if x = y then itsLt xs ys else itLt x y
theorem its_asym : ∀ xs ys : List It, itsLt xs ys = true → itsLt ys xs = false
  | [], [], h => by cases h
  | [], _ :: _, _ => rfl
  | _ :: _, [], h => by cases h
  | x :: xs, y :: ys, h => by
    unfold itsLt at h ⊢
    by_cases e : x = y
    · rw [if_pos e] at h
      rw [if_pos e.symm]
      exact its_asym xs ys h
    · rw [if_neg e] at h
      rw [if_neg (Ne.symm e)]
      exact itLt_swo.asym _ _ h
theorem its_tr : ∀ xs ys zs : List It, itsLt ys xs = false → itsLt zs ys = false → itsLt zs xs = false
  | [], ys, [], _, _ => rfl
  | [], ys, _ :: _, _, _ => rfl
  | _ :: _, [], _, h, _ => by cases h
  | _ :: _, _ :: _, [], _, h => by cases h
  | x :: xs, y :: ys, z :: zs, h1, h2 => by
    unfold itsLt at h1 h2 ⊢
    by_cases e1 : y = x
    · rw [if_pos e1] at h1
      by_cases e2 : z = y
      · rw [if_pos e2] at h2
        rw [if_pos (e2.trans e1)]
        exact its_tr xs ys zs h1 h2
      · rw [if_neg e2] at h2
        rw [if_neg (fun q => e2 (q.trans e1.symm)), ← e1]
        exact h2
    · rw [if_neg e1] at h1
      by_cases e2 : z = y
      · rw [if_neg (fun q => e1 (e2.symm.trans q)), e2]
        exact h1
      · rw [if_neg e2] at h2
        by_cases e3 : z = x
        · refine (e1 ?_).elim
          rw [e3] at h2
          exact itLt_tot h1 h2
        · rw [if_neg e3]
          exact itLt_swo.tr _ _ _ h1 h2
theorem its_swo {α : Type} (k : α → List It) : SrtO.Swo (fun v u : α => itsLt (k v) (k u)) := ⟨fun x y h => its_asym _ _ h, fun x y z h1 h2 => its_tr _ _ _ h1 h2⟩
/-- a value that is an item -/
def ItV (h : Heap) (v : Value) : It → Prop
  | .inl i => ∃ t, v = .int i t
  | .inr ns => ∃ a its, v = .ref a ∧ IsTup h a its ∧ IntsAre its.toList ns
inductive ItVs (h : Heap) : List Value → List It → Prop
  | nil : ItVs h [] []
  | cons {v : Value} {x : It} {vs : List Value} {xs : List It} (hv : ItV h v x) (t : ItVs h vs xs) : ItVs h (v :: vs) (x :: xs)
theorem ItV.keeps {h h' : Heap} {v : Value} {x : It} (k : ∀ b o, h.get? b = some o → o.cls = .type "tuple" → h'.get? b = some o) (hv : ItV h v x) : ItV h' v x := by
  cases x with
  | inl i => exact hv
  | inr ns =>
    obtain ⟨a, its, e, ⟨o, ho, hc, r⟩, hi⟩ := hv
    exact ⟨a, its, e, ⟨o, k _ _ ho hc, hc, r⟩, hi⟩
theorem ItVs.keeps {h h' : Heap} (k : ∀ b o, h.get? b = some o → o.cls = .type "tuple" → h'.get? b = some o) {vs : List Value} {xs : List It} (t : ItVs h vs xs) : ItVs h' vs xs := by
  induction t with
  | nil => exact .nil
  | cons hv _ ih => exact .cons (hv.keeps k) ih
theorem ItVs.length {h : Heap} {vs : List Value} {xs : List It} (t : ItVs h vs xs) : vs.length = xs.length := by
  induction t with
  | nil => rfl
  | cons _ _ ih => rw [List.length_cons, List.length_cons, ih]
def itK : It → Bool
  | .inl _ => true
  | .inr _ => false
/-- a tuple of such items -/
def IsKey (h : Heap) (v : Value) (xs : List It) : Prop := ∃ a o its n, v = .ref a ∧ h.get? a = some o ∧ o.cls = .type "tuple" ∧ o.data = .seq its n ∧ ItVs h its.toList xs
theorem IsKey.keeps {h h' : Heap} {v : Value} {xs : List It} (p : IsKey h v xs) (k : ∀ b o, h.get? b = some o → o.cls = .type "tuple" → h'.get? b = some o) : IsKey h' v xs := by
  obtain ⟨a, o, its, n, e, ho, hc, hd, hi⟩ := p
  exact ⟨a, o, its, n, e, k _ _ ho hc, hc, hd, hi.keeps k⟩
theorem intsKey {prog : Program} {w : World} {vs : List Value} {ns : List Int} (h : IntsAre vs ns) : ItemsAre (mixKind prog w) (ns.map Sum.inl) vs := by
  induction h with
  | nil => exact .nil
  | cons n t r ih => exact .cons (mixKind_int prog w n t) ih
theorem mapInlInj : ∀ {xs ys : List Int}, (xs.map Sum.inl : List Key) = ys.map Sum.inl → xs = ys
  | [], [], _ => rfl
  | [], _ :: _, h => by cases h
  | _ :: _, [], h => by cases h
  | x :: xs, y :: ys, h => by
    rw [List.map_cons, List.map_cons] at h
    injection h with h1 h2
    rw [Sum.inl.inj h1, mapInlInj h2]
section
variable {prog : Program} {w : World} {A : Around} {s : Shared}
theorem itEq {Q : Bool → Shared → Prop} {E : Value → Shared → Prop} (hu : A.units < cLine) {p q : Value} {x y : It} (hp : ItV s.heap p x) (hq : ItV s.heap q y) (hk : itK x = itK y) (h : Q (decide (x = y)) s) : wpAny (model prog w) A (eqBool p q) Q E s := by
  cases x with
  | inl i =>
    cases y with
    | inr ns => cases hk
    | inl j =>
      obtain ⟨t, rfl⟩ := hp
      obtain ⟨u, rfl⟩ := hq
      refine SeqAt.EqAt.int_int i t j u prog w _ _ ?_
      have e : (i == j) = decide ((Sum.inl i : It) = Sum.inl j) := by
        rw [show (i == j) = decide (i = j) from rfl]
        exact decide_eq_decide.mpr ⟨congrArg _, Sum.inl.inj⟩
      rw [e]
      exact h
  | inr ns =>
    cases y with
    | inl j => cases hk
    | inr ms =>
      obtain ⟨a, its, rfl, ⟨o, ho, hc, n, hd⟩, hi⟩ := hp
      obtain ⟨b, its2, rfl, ⟨o2, ho2, hc2, n2, hd2⟩, hi2⟩ := hq
      refine wpAny_eqBool_tuple (knd := mixKind prog w) hu ⟨o, its, n, ho, hc, hd, intsKey hi⟩ ⟨o2, its2, n2, ho2, hc2, hd2, intsKey hi2⟩ ?_
      have e : decide ((ns.map Sum.inl : List Key) = ms.map Sum.inl) = decide ((Sum.inr ns : It) = Sum.inr ms) := decide_eq_decide.mpr ⟨fun h => congrArg _ (mapInlInj h), fun h => by rw [Sum.inr.inj h]⟩
      rw [e]
      exact h
theorem itOne {Q : Bool → Shared → Prop} {E : Value → Shared → Prop} (hu : A.units < cLine) {f : Bool} {p q : Value} {x y : It} (hp : ItV s.heap p x) (hq : ItV s.heap q y) (hk : itK x = itK y) (hf : f = true → itK x = true) (h : Q (itLt x y) s) : wpAny (model prog w) A (oneLt' f p q) Q E s := by
  cases x with
  | inl i =>
    cases y with
    | inr ns => cases hk
    | inl j =>
      obtain ⟨t, rfl⟩ := hp
      obtain ⟨u, rfl⟩ := hq
      exact PyProof.Rows.oneLt_any_int h
  | inr ns =>
    cases y with
    | inl j => cases hk
    | inr ms =>
      have f0 : f = false := by
        cases f with
        | false => rfl
        | true => exact nomatch hf rfl
      subst f0
      obtain ⟨a, its, rfl, ht, hi⟩ := hp
      obtain ⟨b, its2, rfl, ht2, hi2⟩ := hq
      exact PySem.W.kat_one _ _ (HT.lt_tupInts ht ht2 hi hi2 hu h)
theorem itsLex {b : Bool} (hu : A.units < cLine) : ∀ (ps qs : List Value) (xs ys : List It) (i : Nat) {Q : Bool → Shared → Prop}, ItVs s.heap ps xs → ItVs s.heap qs ys → xs.map itK = ys.map itK → (b = true → i = 0 → ∀ x, xs.head? = some x → itK x = true) → Q (itsLt xs ys) s →
    PySem.W.KatLex prog w A b false Q (ps.zip qs) i s
  | _, _, _, _, i, Q, .nil, .nil, _, _, h => PySem.W.kat_nil h
  | _, _, _, _, _, _, .nil, .cons _ _, hk, _, _ => by cases hk
  | _, _, _, _, _, _, .cons _ _, .nil, hk, _, _ => by cases hk
  | _, _, _, _, i, Q, .cons (v := p) (x := x) (xs := xs) hp tp, .cons (v := q) (x := y) (xs := ys) hq tq, hk, hb, h => by
    rw [List.map_cons, List.map_cons] at hk
    injection hk with hk1 hk2
    rw [List.zip_cons_cons]
    refine PySem.W.kat_cons (itEq hu hp hq hk1 ?_)
    unfold itsLt at h
    refine PySem.W.kat_go (fun e => ?_) (fun e => ?_)
    · rw [if_pos (of_decide_eq_true e)] at h
      exact PySem.W.kat_yes (itsLex hu _ _ _ _ (i + 1) tp tq hk2 (fun _ z => by omega) h)
    · rw [if_neg (of_decide_eq_false e)] at h
      refine PySem.W.kat_no (itOne hu hp hq hk1 (fun hf => ?_) h)
      rw [Bool.and_eq_true, beq_iff_eq] at hf
      exact hb hf.1 hf.2 x rfl
theorem key_cmp {vs : List Value} {k : Value → List It} {sh : List Bool} (hu : A.units < cLine) (hp : ∀ v ∈ vs, IsKey s.heap v (k v) ∧ (k v).map itK = true :: sh) : SrtO.Cmp prog w A s (tuples' true) (fun p => p.1 ∈ vs) (SrtO.lt2 fun v u => itsLt (k v) (k u)) := by
  intro p q hm hm'
  obtain ⟨h1, k1⟩ := hp _ hm
  obtain ⟨h2, k2⟩ := hp _ hm'
  show wpAny (model prog w) A (keyLt' (tuples' true) p.1 q.1) (fun r s' => s' = s ∧ r = itsLt (k p.1) (k q.1)) (fun _ _ => False) s
  generalize k p.1 = xs at h1 k1 ⊢
  generalize k q.1 = ys at h2 k2 ⊢
  obtain ⟨a, o, its, n, e, ho, hc, hd, hi⟩ := h1
  obtain ⟨a', o', its', n', e', ho', hc', hd', hi'⟩ := h2
  rw [e, e']
  refine PySem.W.kat_lt ho hd ho' hd' ?_
  have len : its.size = its'.size := by
    have e1 := hi.length
    have e2 := hi'.length
    have e3 := congrArg List.length (k1.trans k2.symm)
    rw [List.length_map, List.length_map] at e3
    rw [← Array.length_toList, ← Array.length_toList, e1, e2, e3]
  have fin : decide (its.size < its'.size) = false := decide_eq_false (by omega)
  rw [fin]
  refine itsLex hu _ _ _ _ 0 hi hi' (k1.trans k2.symm) (fun _ _ x hx => ?_) ⟨rfl, rfl⟩
  cases xs with
  | nil => cases hx
  | cons x0 xs =>
    cases hx
    rw [List.map_cons] at k1
    exact (List.cons.inj k1).1
theorem firstsOf {h : Heap} : ∀ vs : List Value, (∀ v ∈ vs, ∃ i xs, IsKey h v (.inl i :: xs)) → ∃ fs : List Value, PySem.W.KatTups h vs fs ∧ fs.length = vs.length ∧ ∀ f ∈ fs, ∃ i t, f = Value.int i t
  | [], _ => ⟨[], PySem.W.KatTups.nil, rfl, fun f hf => by simp at hf⟩
  | v :: vs, x => by
    obtain ⟨fs, k, hl, hi⟩ := firstsOf vs fun u hu => x u (List.mem_cons_of_mem _ hu)
    obtain ⟨i, xs, a, o, its, n, rfl, ho, hc, hd, ht⟩ := x v (List.mem_cons_self ..)
    obtain ⟨l⟩ := its
    cases ht with
    | cons hv tv =>
    obtain ⟨t, rfl⟩ := hv
    refine ⟨_ :: fs, PySem.W.KatTups.cons ho hc hd rfl k, by rw [List.length_cons, List.length_cons, hl], fun f hf => ?_⟩
    rcases List.mem_cons.mp hf with rfl | hf
    · exact ⟨i, t, rfl⟩
    · exact hi f hf
theorem key_sortable {a : Addr} {vs : List Value} {k : Value → List It} {sh : List Bool} (h0 : 0 < vs.length) (hu : A.units < cLine) (hp : ∀ v ∈ vs, IsKey s.heap v (k v) ∧ (k v).map itK = true :: sh) (ha : ∀ o, s.heap.get? a = some o → o.cls ≠ .type "tuple") : SrtO.SortableO prog w A s a vs fun v u => itsLt (k v) (k u) := by
  intro h' keep
  have hp' : ∀ v ∈ vs, IsKey h' v (k v) ∧ (k v).map itK = true :: sh := fun v hm => ⟨(hp v hm).1.keeps fun b o e c => keep b o (fun z => by subst z; exact ha o e c) e, (hp v hm).2⟩
  obtain ⟨fs, h1, h2, h3⟩ := firstsOf (h := h') vs fun v hm => by
    obtain ⟨q1, q2⟩ := hp' v hm
    generalize k v = xs at q1 q2
    cases xs with
    | nil => cases q2
    | cons x0 xs =>
      cases x0 with
      | inl i => exact ⟨i, xs, q1⟩
      | inr ns => cases q2
  refine ⟨tuples' true, fun Q E hq => ?_, key_cmp (s := { s with heap := h' }) hu hp'⟩
  refine PySem.W.kat_kind (T := .type "int") h1 (by omega) (fun f hm => ?_) (by rfl) ?_
  · obtain ⟨x, t, rfl⟩ := h3 f hm
    exact PySem.W.Looks.now
  · have e : (Value.type "int" != Value.type "tuple") = true := by first | decide +kernel | rfl | decide
    rw [e]
    exact hq
theorem sorted_keys {l : Addr} {vs : List Value} {k : Value → List It} {sh : List Bool} {Q : Value → Shared → Prop} {E : Value → Shared → Prop} (hu : A.units + 64 < cLine) (hl : s.heap.IsList l vs.toArray) (hz : vs.length ≤ sizeLine) (hp : ∀ v ∈ vs, IsKey s.heap v (k v) ∧ (k v).map itK = true :: sh)
    (h : ∀ (h' : Heap) (d : Addr) (out : List Value), SrtO.Srtd (fun v u => itsLt (k v) (k u)) out → SrtO.Stb (fun v u => itsLt (k v) (k u)) out vs → (∀ b o, s.heap.get? b = some o → h'.get? b = some o) → s.heap.objs.size ≤ d → (∃ n, h'.get? d = some (seqObj "list" out.toArray n)) → Q (.ref d) { s with heap := h' }) :
    wpAny (model prog w) A (call (.builtin "sorted") [.ref l]) Q E s := by
  refine SrtO.sorted_ord (its_swo k) hl hz (fun h2 h₁ a ha kk => ?_) fun out hs hb => ?_
  · refine key_sortable (s := { s with heap := h₁ }) (sh := sh) (by omega) (by show A.units + 1 + 1 < cLine; omega) (fun v hm => ⟨(hp v hm).1.keeps fun b o e _ => (kk b o e).2, (hp v hm).2⟩) fun o e => ?_
    have e' : some o = some (seqObj "list" vs.toArray 0) := e.symm.trans ha
    cases e'
    intro c
    exact absurd (Value.type.inj c) (by decide)
  · exact h _ _ out hs hb (fun b o e => sortedAll_old e) (Nat.le_succ _) (sortedAll_at s.heap vs out.toArray)
end
/-- an item, as it stands -/
def ItA (H : Hp) (v : V) : It → Prop
  | .inl i => v = .int i
  | .inr ns => ∃ t, v = .ref t ∧ H t = some (.tup (ns.map V.int))
inductive ItAs (H : Hp) : List V → List It → Prop
  | nil : ItAs H [] []
  | cons {v : V} {x : It} {vs : List V} {xs : List It} (hv : ItA H v x) (t : ItAs H vs xs) : ItAs H (v :: vs) (x :: xs)
theorem ItA.keep {H H2 : Hp} (s : Same H H2) {v : V} {x : It} (h : ItA H v x) : ItA H2 v x := by
  cases x with
  | inl i => exact h
  | inr ns =>
    obtain ⟨t, e, ht⟩ := h
    exact ⟨t, e, s _ _ ht⟩
theorem ItAs.keep {H H2 : Hp} (s : Same H H2) {vs : List V} {xs : List It} (h : ItAs H vs xs) : ItAs H2 vs xs := by
  induction h with
  | nil => exact .nil
  | cons hv _ ih => exact .cons (hv.keep s) ih
/-- at x: a tuple of such items -/
def KeyA (H : Hp) (x : V) (ks : List It) : Prop := ∃ t vs, x = .ref t ∧ H t = some (.tup vs) ∧ ItAs H vs ks
theorem KeyA.keep {H H2 : Hp} (s : Same H H2) {x : V} {ks : List It} (h : KeyA H x ks) : KeyA H2 x ks := by
  obtain ⟨t, vs, e, ht, hi⟩ := h
  exact ⟨t, vs, e, s _ _ ht, hi.keep s⟩
section
variable {X : Cx} {pins : List (Addr × Obj)} {σ : L2.St} {H : Hp} {s : Shared}
theorem itRaw (I : Inv X pins σ H s) {v : V} {u : Value} {x : It} (r : RelV v u) (h : ItA H v x) : ItV s.heap u x := by
  cases x with
  | inl i =>
    cases (show v = V.int i from h)
    exact r
  | inr ns =>
    obtain ⟨t, rfl, ht⟩ := h
    cases (show u = Value.ref t from r)
    obtain ⟨its, rv, hT, _⟩ := I.tuple (SqT.of ht)
    exact ⟨t, its.toArray, rfl, hT, by simpa using intsAre_of rv⟩
theorem itsRaw (I : Inv X pins σ H s) {vs : List V} {us : List Value} {xs : List It} (r : Vals vs us) (h : ItAs H vs xs) : ItVs s.heap us xs := by
  induction h generalizing us with
  | nil =>
    cases r
    exact .nil
  | cons hv _ ih =>
    cases r with
    | cons r1 r2 => exact .cons (itRaw I r1 hv) (ih r2)
theorem keyRaw (I : Inv X pins σ H s) {x : V} {u : Value} {ks : List It} (r : RelV x u) (h : KeyA H x ks) : IsKey s.heap u ks := by
  obtain ⟨t, vs, rfl, ht, hi⟩ := h
  cases (show u = Value.ref t from r)
  obtain ⟨its, rv, ⟨o, ho, hc, n, hd⟩, _⟩ := I.tuple (SqT.of (K := X.K) ht)
  exact ⟨t, o, its.toArray, n, rfl, ho, hc, hd, by simpa using itsRaw I rv hi⟩
end
/-- sorted(xs), xs a list of tuples of one form, an int first: a new list of the same, sorted by k -/
def rSortedX (K : PySem.W.Frag) : List V → Hp → VK → Prop := fun vs H Q => ∃ (a : Addr) (xs : List V) (k : V → List It) (sh : List Bool), vs = [V.ref a] ∧ SqL K H a xs ∧ (∀ x ∈ xs, KeyA H x (k x) ∧ (k x).map itK = true :: sh) ∧
  ∀ ys p, ys.Perm xs → ys.Pairwise (fun x y => itsLt (k y) (k x) = false) → H p = none → Q (.ref p) (upd H p (.lst ys))
theorem cr_sortedX {X : Cx} (hu : X.A.units + 64 < cLine) : CallR X (.builtin "sorted") (rSortedX X.K) := by
  intro pins s σ H vs us Q I r h
  obtain ⟨a, xs, k, sh, rfl, hs, hx, q⟩ := h
  obtain ⟨its, rv, hl, hz⟩ := I.list hs
  obtain ⟨u, rfl, ru⟩ := vals1 r
  obtain rfl : u = Value.ref a := ru
  obtain ⟨e1, e2⟩ := refs_back rv fun x m => by
    obtain ⟨⟨t, _, e, _⟩, _⟩ := hx x m
    exact ⟨t, e⟩
  refine sorted_keys (k := fun u => k (backV u)) (sh := sh) hu hl.isList (by rw [← rv.length]; exact hz) (fun v hv => ?_) fun h' d out h1 h2 kp hd hn => ?_
  · obtain ⟨t, rfl⟩ := e2 v hv
    have hm : V.ref t ∈ xs := by rw [e1]; exact List.mem_map.mpr ⟨_, hv, rfl⟩
    obtain ⟨q1, q2⟩ := hx _ hm
    exact ⟨keyRaw I (show RelV (.ref t) (.ref t) from rfl) q1, q2⟩
  · have h3 : ∀ u ∈ out, ∃ a, u = Value.ref a := fun u hu => e2 u (h2.perm.mem_iff.mp hu)
    obtain ⟨n, hn⟩ := hn
    have hp : (out.map backV).Perm xs := by
      rw [e1]
      exact h2.perm.map backV
    refine ⟨.ref d, upd H d (.lst (out.map backV)), I.laid (t' := s.toks) kp hd ⟨?_, out, n, vals_back h3, hn⟩, rfl, q _ d hp (List.pairwise_map.mpr h1) (I.hok.fresh hd)⟩
    rw [hp.length_eq]
    exact hz
end Kv
/-! zip of a tuple and a list, by what two iterators of any kind give -/
namespace Kv
open PySem PySem.Spec PyProof.Rows L2
/-- the iterator at i over what lies at l: at turn k it gives the k-th of vs, then it ends -/
structure Dr (prog : Program) (w : World) (i l : Addr) (vs : Array Value) (P : Nat → Heap → Prop) : Prop where
  keep : ∀ {k : Nat} {h h' : Heap}, P k h → (∀ c o, c = i ∨ c = l → h.get? c = some o → h'.get? c = some o) → P k h'
  item : ∀ {A : Around} {k : Nat} {x : Value} {s : Shared} {Q : Value → Shared → Prop} {E : Value → Shared → Prop}, P k s.heap → vs[k]? = some x → (∀ h', P (k + 1) h' → Heap.SameBut i s.heap h' → Q x { s with heap := h' }) → wpAny (model prog w) A (Builtin.SmallTypes.nextOf (.ref i)) Q E s
  fin : ∀ {A : Around} {k : Nat} {s : Shared} {Q : Value → Shared → Prop} {E : Value → Shared → Prop}, A.handled = none → P k s.heap → vs[k]? = none →
    (∀ h' e, Heap.ExtBut i s.heap h' → (∃ o, h'.get? e = some o ∧ o.cls = .type "StopIteration") → E (.ref e) { s with heap := h' }) → wpAny (model prog w) A (Builtin.SmallTypes.nextOf (.ref i)) Q E s
theorem drTup {prog : Program} {w : World} {i l : Addr} {vs : Array Value} (n : l ≠ i) : Dr prog w i l vs fun k h => h.IsTupleIter i l k ∧ h.IsTuple l vs where
  keep := fun ⟨a, b⟩ k => ⟨a.at fun o e => k i o (.inl rfl) e, by obtain ⟨o, e, r⟩ := b; exact ⟨o, k l o (.inr rfl) e, r⟩⟩
  item := fun ⟨a, b⟩ hx q => RZ.nextOf_tuple_item a b hx fun h' a2 sb => q h' ⟨a2, b.extBut sb.extBut n⟩ sb
  fin := fun hh ⟨a, b⟩ hx q => RZ.nextOf_tuple_end hh a b hx q
theorem drLst {prog : Program} {w : World} {i l : Addr} {vs : Array Value} (n : l ≠ i) : Dr prog w i l vs fun k h => h.IsListIter i l k ∧ h.IsList l vs where
  keep := fun ⟨a, b⟩ k => ⟨a.at fun o e => k i o (.inl rfl) e, by obtain ⟨o, e, r⟩ := b; exact ⟨o, k l o (.inr rfl) e, r⟩⟩
  item := fun ⟨a, b⟩ hx q => wpAny_nextOf_list_item a b hx fun h' a2 sb => q h' ⟨a2, b.extBut sb.extBut n⟩ sb
  fin := fun hh ⟨a, b⟩ hx q => wpAny_nextOf_list_end hh a b hx q
section
variable {prog : Program} {w : World} {A : Around} {s : Shared} {E : Value → Shared → Prop}
theorem drawn2 {z p t i j l m : Addr} {k : Nat} {vs us : Array Value} {x y a b : Value} {P R : Nat → Heap → Prop} {Q : Value → Shared → Prop} (D : ZipApart z p t i j l m) (f : Dr prog w i l vs P) (g : Dr prog w j m us R)
    (hz : IsZip s.heap z p t .none) (hp : IsPair s.heap p (.ref i) (.ref j)) (ht : IsPair s.heap t a b) (hP : P k s.heap) (hR : R k s.heap) (hx : vs[k]? = some x) (hy : us[k]? = some y)
    (q : ∀ h', IsZip h' z p t (rawInt s.heap.objs.size) → IsPair h' t x y → P (k + 1) h' → R (k + 1) h' → IsPair h' s.heap.objs.size x y → (∀ c o, c ≠ z → c ≠ t → c ≠ i → c ≠ j → s.heap.get? c = some o → h'.get? c = some o) → Q (.ref s.heap.objs.size) { s with heap := h' }) :
    wpAny (model prog w) A (Builtin.«zip.__next__» ⟨[.ref z], []⟩) (fun e s' => ∃ v, e = .done (.ret v) ∧ Q v s') E s := by
  have ofI : ∀ {h h' : Heap} {n : Nat}, P n h → (∀ c o, c ≠ z → c ≠ t → c ≠ j → h.get? c = some o → h'.get? c = some o) → P n h' := fun q1 q2 => f.keep q1 fun c o e g1 => by
    rcases e with rfl | rfl
    · exact q2 _ o D.i1z D.TOi1.symm D.i12 g1
    · exact q2 _ o D.l1z D.l1TO D.l1i2 g1
  have ofJ : ∀ {h h' : Heap} {n : Nat}, R n h → (∀ c o, c ≠ z → c ≠ t → c ≠ i → h.get? c = some o → h'.get? c = some o) → R n h' := fun q1 q2 => g.keep q1 fun c o e g1 => by
    rcases e with rfl | rfl
    · exact q2 _ o D.i2z D.TOi2.symm D.i12.symm g1
    · exact q2 _ o D.l2z D.l2TO D.l2i1 g1
  show wpAny _ _ (field (.ref z) 2 >>= _) _ _ _
  refine wpAny_bind (wpAny_field hz rfl (x := .bool false) rfl ?_)
  refine wpAny_bind (wpAny_field hz rfl (x := .ref p) rfl (wpAny_bind (wpAny_seqItems hp rfl ?_)))
  show wpAny _ _ (Builtin.SmallTypes.ownedTupleIsFree (.ref z) >>= _) _ _ _
  unfold Builtin.SmallTypes.ownedTupleIsFree
  refine wpAny_bind (wpAny_bind (wpAny_field hz rfl (x := .none) rfl (wpAny_pure ?_)))
  simp only [if_true]
  refine wpAny_bind (wpAny_rule (wpAny_bind (wpAny_field hz rfl (x := .ref t) rfl (wpAny_bind (wpAny_setField_rec hz (by simp) fun h1 z1 s1 => ?_)))))
  replace z1 : IsZip h1 z p t .ellipsis := z1
  refine wpAny_bind ?_
  simp only [List.zipIdx_cons, List.zipIdx_nil, List.forIn_cons, List.forIn_nil]
  refine wpAny_bind (wpAny_bind (wpAny_onRaise ?_))
  show wpAny _ _ (Builtin.SmallTypes.nextOf (.ref i) >>= _) _ _ _
  refine wpAny_bind (f.item (ofI hP fun c o c1 _ _ e => s1.extBut _ _ c1 e) hx fun h2 p2 s2 => wpAny_pure ?_)
  have t2 : IsPair h2 t a b := s2.extBut _ _ D.TOi1 (s1.extBut _ _ D.TOz ht)
  refine wpAny_bind (wpAny_seqItems t2 rfl (wpAny_bind (wpAny_updateSeq_pair t2 fun h3 t3 s3 => ?_)))
  replace t3 : IsPair h3 t x b := t3
  refine wpAny_bind (wpAny_letGo (wpAny_pure (wpAny_bind (wpAny_bind (wpAny_onRaise ?_)))))
  show wpAny _ _ (Builtin.SmallTypes.nextOf (.ref j) >>= _) _ _ _
  refine wpAny_bind (g.item (ofJ hR fun c o c1 c2 c3 e => s3.extBut _ _ c2 (s2.extBut _ _ c3 (s1.extBut _ _ c1 e))) hy fun h4 r4 s4 => wpAny_pure ?_)
  have t4 : IsPair h4 t x b := s4.extBut _ _ D.TOi2 t3
  refine wpAny_bind (wpAny_seqItems t4 rfl (wpAny_bind (wpAny_updateSeq_pair t4 fun h5 t5 s5 => ?_)))
  replace t5 : IsPair h5 t x y := t5
  refine wpAny_bind (wpAny_letGo (wpAny_pure (wpAny_pure ?_)))
  refine wpAny_bind (wpAny_seqItems t5 rfl (wpAny_bind (wpAny_newTuple ?_)))
  have all5 : ∀ c o, c ≠ z → c ≠ t → c ≠ i → c ≠ j → s.heap.get? c = some o → h5.get? c = some o := fun c o c1 c2 c3 c4 e => s5.extBut _ _ c2 (s4.extBut _ _ c4 (s3.extBut _ _ c2 (s2.extBut _ _ c3 (s1.extBut _ _ c1 e))))
  have z5 : IsZip h5 z p t .ellipsis := s5.extBut _ _ D.TOz.symm (s4.extBut _ _ D.i2z.symm (s3.extBut _ _ D.TOz.symm (s2.extBut _ _ D.i1z.symm z1)))
  have size : h5.objs.size = s.heap.objs.size := by rw [s5.1, s4.1, s3.1, s2.1, s1.1]
  have zl : z ≠ h5.objs.size := Nat.ne_of_lt (Heap.lt_size z5)
  show wpAny _ _ (Builtin.SmallTypes.ownedTupleHandOut (.ref z) (.ref h5.objs.size) >>= _) _ _ _
  unfold Builtin.SmallTypes.ownedTupleHandOut
  refine wpAny_bind (wpAny_bind (wpAny_setField_rec (show IsZip (h5.push { cls := .type "tuple", data := .seq #[x, y] }) z p t .ellipsis from Heap.get?_push_of_some _ z5) (by simp) fun h6 z6 s6 => ?_))
  replace z6 : IsZip h6 z p t (rawInt h5.objs.size) := z6
  refine wpAny_setField_rec z6 (by simp) fun h7 z7 s7 => ?_
  replace z7 : IsZip h7 z p t (rawInt h5.objs.size) := z7
  have on : ∀ c o, c ≠ z → h5.get? c = some o → h7.get? c = some o := fun c o c1 e => s7.extBut _ _ c1 (s6.extBut _ _ c1 (Heap.get?_push_of_some _ e))
  have new : IsPair h7 h5.objs.size x y := s7.extBut _ _ zl.symm (s6.extBut _ _ zl.symm (Heap.get?_push_size _ rfl))
  rw [size] at z7 new
  refine wpAny_pure ⟨_, rfl, ?_⟩
  show Q (.ref h5.objs.size) _
  rw [size]
  refine q h7 z7 (on _ _ D.TOz t5) ?_ (ofJ r4 fun c o c1 c2 _ e => on c o c1 (s5.extBut _ _ c2 e)) new fun c o c1 c2 c3 c4 e => on c o c1 (all5 c o c1 c2 c3 c4 e)
  exact ofI p2 fun c o c1 c2 c4 e => on c o c1 (s5.extBut _ _ c2 (s4.extBut _ _ c4 (s3.extBut _ _ c2 e)))
theorem ended2 {z p t i j l m : Addr} {k : Nat} {vs us : Array Value} {a b : Value} {P R : Nat → Heap → Prop} {Q : Fin → Shared → Prop} (hh : A.handled = none) (D : ZipApart z p t i j l m) (f : Dr prog w i l vs P) (g : Dr prog w j m us R)
    (hz : IsZip s.heap z p t .none) (hp : IsPair s.heap p (.ref i) (.ref j)) (ht : IsPair s.heap t a b) (hP : P k s.heap) (hR : R k s.heap) (hend : vs[k]? = none)
    (q : ∀ h' e, (∀ c o, c ≠ z → c ≠ t → c ≠ i → c ≠ j → s.heap.get? c = some o → h'.get? c = some o) → (∃ o, h'.get? e = some o ∧ o.cls = .type "StopIteration") → E (.ref e) { s with heap := h' }) :
    wpAny (model prog w) A (Builtin.«zip.__next__» ⟨[.ref z], []⟩) Q E s := by
  show wpAny _ _ (field (.ref z) 2 >>= _) _ _ _
  refine wpAny_bind (wpAny_field hz rfl (x := .bool false) rfl ?_)
  refine wpAny_bind (wpAny_field hz rfl (x := .ref p) rfl (wpAny_bind (wpAny_seqItems hp rfl ?_)))
  show wpAny _ _ (Builtin.SmallTypes.ownedTupleIsFree (.ref z) >>= _) _ _ _
  unfold Builtin.SmallTypes.ownedTupleIsFree
  refine wpAny_bind (wpAny_bind (wpAny_field hz rfl (x := .none) rfl (wpAny_pure ?_)))
  simp only [if_true]
  refine wpAny_bind (wpAny_rule (wpAny_bind (wpAny_field hz rfl (x := .ref t) rfl (wpAny_bind (wpAny_setField_rec hz (by simp) fun h1 z1 s1 => ?_)))))
  replace z1 : IsZip h1 z p t .ellipsis := z1
  refine wpAny_bind ?_
  simp only [List.zipIdx_cons, List.zipIdx_nil, List.forIn_cons, List.forIn_nil]
  refine wpAny_bind (wpAny_bind (wpAny_onRaise ?_))
  show wpAny _ _ (Builtin.SmallTypes.nextOf (.ref i) >>= _) _ _ _
  have hP1 : P k h1 := f.keep hP fun c o e g1 => by
    rcases e with rfl | rfl
    · exact s1.extBut _ _ D.i1z g1
    · exact s1.extBut _ _ D.l1z g1
  refine wpAny_bind (f.fin hh hP1 hend fun h2 e s2 ⟨o, ho, hc⟩ => ?_)
  have z2 : IsZip h2 z p t .ellipsis := s2 _ _ D.i1z.symm z1
  have ez : e ≠ z := fun x => by
    subst x
    rw [z2] at ho
    cases ho
    simp at hc
  exact wpAny_setField_rec z2 (by simp) fun h3 _ s3 => q h3 e (fun c o c1 _ c3 _ x => s3.extBut _ _ c1 (s2 _ _ c3 (s1.extBut _ _ c1 x))) ⟨o, s3.extBut _ _ ez ho, hc⟩
end
/-- a tuple at a and a list at b, the items in new pairs -/
def ItzM (K : PySem.W.Frag) (a b : Addr) : L2.It :=
  ⟨fun n H => ∃ (xs ys : List V) (x y : V), SqT K H a xs ∧ SqL K H b ys ∧ xs[n]? = some x ∧ ys[n]? = some y,
    fun n H v H2 => ∃ T x y, v = .ref T ∧ H T = none ∧ H2 = upd H T (.tup [x, y]) ∧ (∀ xs, SqT K H a xs → xs[n]? = some x) ∧ ∀ ys, SqL K H b ys → ys[n]? = some y,
    fun n H => ∃ xs : List V, (∃ ys, SqL K H b ys) ∧ SqT K H a xs ∧ xs.length ≤ n⟩
/-- the zFive that zip works with -/
def zFive (z p t i j : Addr) : List Addr := [z, p, t, i, j]
def ZipSt (z p t i j a b : Addr) (n : Nat) (h : Heap) : Prop := (IsZip h z p t .none ∧ IsPair h p (.ref i) (.ref j)) ∧ (∃ x y, IsPair h t x y) ∧ h.IsTupleIter i a n ∧ h.IsListIter j b n
theorem ofZf {z p t i j c : Addr} (h : c ∈ zFive z p t i j) : c = z ∨ c = p ∨ c = t ∨ c = i ∨ c = j := by
  unfold zFive at h
  simpa using h
theorem notZf {z p t i j c : Addr} (h : c ∉ zFive z p t i j) : c ≠ z ∧ c ≠ p ∧ c ≠ t ∧ c ≠ i ∧ c ≠ j := by
  unfold zFive at h
  simpa using h
theorem ZipSt.there {z p t i j a b : Addr} {n : Nat} {h : Heap} (st : ZipSt z p t i j a b n h) : ∀ c ∈ zFive z p t i j, ∃ o, h.get? c = some o ∧ ∀ v, o.data ≠ .cell v := by
  obtain ⟨⟨e1, e2⟩, ⟨x, y, e3⟩, ⟨o4, e4, _, d4⟩, o5, e5, _, d5⟩ := st
  intro c hc
  rcases ofZf hc with rfl | rfl | rfl | rfl | rfl
  · exact ⟨_, e1, fun v q => nomatch q⟩
  · exact ⟨_, e2, fun v q => nomatch q⟩
  · exact ⟨_, e3, fun v q => nomatch q⟩
  · exact ⟨o4, e4, fun v q => nomatch d4.symm.trans q⟩
  · exact ⟨o5, e5, fun v q => nomatch d5.symm.trans q⟩
theorem ZipSt.on {z p t i j a b : Addr} {n : Nat} {h h2 : Heap} (st : ZipSt z p t i j a b n h) (k : ∀ c ∈ zFive z p t i j, ∀ o, h.get? c = some o → h2.get? c = some o) : ZipSt z p t i j a b n h2 := by
  obtain ⟨⟨e1, e2⟩, ⟨x, y, e3⟩, e4, e5⟩ := st
  exact ⟨⟨k z (by simp [zFive]) _ e1, k p (by simp [zFive]) _ e2⟩, ⟨x, y, k t (by simp [zFive]) _ e3⟩, e4.at (k i (by simp [zFive])), e5.at (k j (by simp [zFive]))⟩
theorem turnM {P : Program} {w : World} {K : PySem.W.Frag} {elts : List Expr} {kk : Nat} {tpos : Pos} {a b z p t i j : Addr} (D : ZipApart z p t i j a b) : Turn P w K (.Tuple elts kk tpos) (ItzM K a b) (zFive z p t i j) z (ZipSt z p t i j a b) where
  mem := by simp [zFive]
  obj := fun _ _ st => st.there
  keep := fun _ _ _ st k => st.on k
  item := by
    intro X hP hw hK _ n pins s σ H E I hf st hg
    subst hP hw hK
    have zl : z < s.heap.objs.size := Heap.lt_size st.1.1
    have old : ∀ c ∈ zFive z p t i j, c < s.heap.objs.size := fun c hc => by
      obtain ⟨o, e, _⟩ := st.there c hc
      exact Heap.lt_size e
    obtain ⟨⟨hz, hp⟩, ⟨x0, y0, ht⟩, h1, h2⟩ := st
    obtain ⟨xs, ys, x, y, qx, qy, gx, gy⟩ := hg
    obtain ⟨us, ru, iu, _⟩ := I.tuple qx
    obtain ⟨vs, rv, iv, _⟩ := I.list qy
    obtain ⟨u, eu, hu⟩ := ru.get gx
    obtain ⟨v, ev, hv⟩ := rv.get gy
    have hT : s.TypeIs (.ref z) "zip" := ⟨_, hz, rfl⟩
    unfold pyNext
    refine wpAny_bind (wpAny_attempt (wpAny_callSpecial?_slot (name := Str.ofString "__next__") hT F.slot_zip_next (wpAny_call_entry F.slot_zip_next hT F.entry_zip_next ?_ (F.args_zip_next_1 _))))
    refine drawn2 D (drTup D.l1i1) (drLst D.l2i2) hz hp ht ⟨h1, iu⟩ ⟨h2, iv.isList⟩ (x := u) (y := v) (by simpa using eu) (by simpa using ev) fun g gz gt ⟨gi, _⟩ ⟨gj, _⟩ gn go => wpAny_pure ?_
    refine ⟨_, rfl, wpAny_letOwnedTupleGo_zip (s := { s with heap := g }) gz fun k kz sb => ?_⟩
    have kn : k.get? s.heap.objs.size = some { cls := .type "tuple", data := .seq #[u, v] } := (sb.2 _ (Nat.ne_of_gt zl)).trans gn
    have I2 : Inv X pins σ (upd H s.heap.objs.size (.tup [x, y])) { s with heap := k } :=
      I.turnedNew (t' := s.toks) (ch := zFive z p t i j) (fun c o nc e => by
        obtain ⟨c1, _, c3, c4, c5⟩ := notZf nc
        exact (sb.2 c c1).trans (go c o c1 c3 c4 c5 e)) hf (Nat.le_refl _) (show ObjOk X.prog X.w _ k _ (.tup [x, y]) from ⟨show 2 ≤ sizeLine by decide, [u, v], .cons hu (.cons hv .nil), ⟨_, kn, rfl, _, rfl⟩⟩)
    refine ⟨.ref s.heap.objs.size, _, I2, rfl, ⟨_, x, y, rfl, I.hok.fresh (Nat.le_refl _), rfl, fun l hl => ?_, fun l hl => ?_⟩, ⟨⟨kz, (sb.2 _ D.TIz).trans (go _ _ D.TIz D.TITO D.TIi1 D.TIi2 hp)⟩, ⟨u, v, (sb.2 _ D.TOz).trans gt⟩, gi.at fun o q => (sb.2 _ D.i1z).trans q, gj.at fun o q => (sb.2 _ D.i2z).trans q⟩, fun c hc => ?_⟩
    · rw [I.tuple_inj hl qx]
      exact gx
    · rw [I.list_inj hl qy]
      exact gy
    · rw [upd_ne (Nat.ne_of_lt (old c hc))]
      exact (hf c hc).1
  done := by
    intro X hP hw hK hc n pins s σ H E I hf st hg
    subst hP hw hK
    obtain ⟨⟨hz, hp⟩, ⟨x0, y0, ht⟩, h1, h2⟩ := st
    obtain ⟨xs, ⟨ys, qy⟩, qx, over⟩ := hg
    obtain ⟨us, ru, iu, _⟩ := I.tuple qx
    obtain ⟨vs, rv, iv, _⟩ := I.list qy
    have no : us.toArray[n]? = none := by
      have := ru.length
      simp
      omega
    have hT : s.TypeIs (.ref z) "zip" := ⟨_, hz, rfl⟩
    unfold pyNext
    refine wpAny_bind (wpAny_attempt (wpAny_callSpecial?_slot (name := Str.ofString "__next__") hT F.slot_zip_next (wpAny_call_entry F.slot_zip_next hT F.entry_zip_next
      (ended2 (I.ok.hd hc) D (drTup D.l1i1) (drLst D.l2i2) hz hp ht ⟨h1, iu⟩ ⟨h2, iv.isList⟩ no fun g e go ⟨o, ho, oc⟩ => ?_) (F.args_zip_next_1 _))))
    refine wpAny_bind (wpAny_isInstance (T := "StopIteration") (b := true) ⟨o, ho, oc⟩ isSubtype_stop (wpAny_pure ⟨rfl, ?_⟩))
    exact I.turnedL (t' := s.toks) (ch := zFive z p t i j) (fun c ob nc q => by
      obtain ⟨c1, _, c3, c4, c5⟩ := notZf nc
      exact go c ob c1 c3 c4 c5 q) hf
  self := fun _ _ _ _ _ st q => wpAny_pyIter_zip st.1.1 q
/-- the heap with what zip makes -/
def zMixed (h : Heap) (a b : Addr) : Heap :=
  ((((h.push { cls := .type "tuple_iterator", data := .fields #[.ref a, .int 0 0] }).push { cls := .type "list_iterator", data := .fields #[.ref b, .int 0 0] }).push
    { cls := .type "tuple", data := .seq #[.ref h.objs.size, .ref (h.objs.size + 1)] }).push { cls := .type "tuple", data := .seq #[.none, .none] }).push
    { cls := .type "zip", data := .fields #[.none, .bool false, .bool false, .ref (h.objs.size + 2), .ref (h.objs.size + 3)] }
theorem madeMixed (a b : Addr) (xs ys : Array Value) :
    Meets (Builtin.«zip.__new__» ⟨[.type "zip", .ref a, .ref b], []⟩) fun _ R s => s.heap.IsTuple a xs ∧ s.heap.IsList b ys ∧ R (.ok (.ret (.ref (s.heap.objs.size + 4)))) { s with heap := zMixed s.heap a b } :=
  .of_wp fun prog w A R s q => by
    obtain ⟨hp, g, d, tk, os⟩ := s
    obtain ⟨q1, q2, q3⟩ := q
    have hsub := sub_zip
    have r1 : Heap.IsTuple (Shared.heap ⟨hp, g, d, tk, os⟩) a xs := q1
    have r2 : Heap.IsList (Shared.heap ⟨hp.push { cls := .type "tuple_iterator", data := .fields #[.ref a, .int 0 0] }, g, d, tk, os⟩) b ys := Heap.IsList.push q2 _
    wp_walk using wpAny_pyIter_tuple r1, wpAny_pyIter_list r2
    refine ⟨_, rfl, ?_⟩
    simp only [Heap.size_push]
    exact q3
theorem push_at {h : Heap} {o : Obj} {n : Nat} (e : h.objs.size = n) (f : o.isFreed = false) : (h.push o).get? n = some o := by
  rw [← e]
  exact Heap.get?_push_size _ f
theorem zMixedAt (h : Heap) (a b : Addr) : ZipSt (h.objs.size + 4) (h.objs.size + 2) (h.objs.size + 3) h.objs.size (h.objs.size + 1) a b 0 (zMixed h a b) := by
  unfold zMixed
  refine ⟨⟨push_at (by simp only [Heap.size_push]) rfl, ?_⟩, ⟨.none, .none, ?_⟩, ⟨{ cls := .type "tuple_iterator", data := .fields #[.ref a, .int 0 0] }, ?_, rfl, rfl⟩, ⟨{ cls := .type "list_iterator", data := .fields #[.ref b, .int 0 0] }, ?_, rfl, rfl⟩⟩
  · exact Heap.get?_push_of_some _ (Heap.get?_push_of_some _ (push_at (by simp only [Heap.size_push]) rfl))
  · exact Heap.get?_push_of_some _ (push_at (by simp only [Heap.size_push]) rfl)
  · exact Heap.get?_push_of_some _ (Heap.get?_push_of_some _ (Heap.get?_push_of_some _ (Heap.get?_push_of_some _ (push_at rfl rfl))))
  · exact Heap.get?_push_of_some _ (Heap.get?_push_of_some _ (Heap.get?_push_of_some _ (push_at (by simp only [Heap.size_push]) rfl)))
theorem zMixed_old {h : Heap} {a b c : Addr} {o : Obj} (e : h.get? c = some o) : (zMixed h a b).get? c = some o :=
  Heap.get?_push_of_some _ (Heap.get?_push_of_some _ (Heap.get?_push_of_some _ (Heap.get?_push_of_some _ (Heap.get?_push_of_some _ e))))
def iZipM (K : PySem.W.Frag) (ta : TA) : TI := fun σ H R => ta σ H fun vs H1 => ∃ a b xs ys, vs = [.ref a, .ref b] ∧ SqT K H1 a xs ∧ SqL K H1 b ys ∧ R (ItzM K a b) H1
theorem pi_zipM {X : Cx} {e e2 : Expr} {ta : TA} {p pos tpos : Pos} {elts : List Expr} {kk : Nat} (hg : Gl X "zip") (hm : X.mg "zip" = none) (ha : PA X [e, e2] ta)
    (hs : starEach [e, e2] X.env = (false, eval e X.env) :: starEach [e2] X.env := by rfl) (hpl : (backTo pos (starEach [e2] X.env)).any (·.1) = false := by rfl) : PI X (.Tuple elts kk tpos) (.Call (.Name "zip" p) [e, e2] [] pos) (iZipM X.K ta) := by
  refine ⟨fun pins s σ H R I q => Call_ (ld_blt I hg hm PyProof.Rows.boot_zip (PyProof.Rows.callWith_type1 (thn (ha.run pos pins s σ H _ I q) fun us s1 ⟨vs, H1, I1, r1, q1⟩ => ?_) hs hpl))⟩
  obtain ⟨a, b, xs, ys, rfl, qx, qy, q2⟩ := q1
  cases r1 with
  | cons ra r1 =>
  cases r1 with
  | cons rb r1 =>
  cases r1
  cases ra
  cases rb
  obtain ⟨us2, ru, iu, _⟩ := I1.tuple qx
  obtain ⟨vs2, rv, iv, _⟩ := I1.list qy
  have la : a < s1.heap.objs.size := by
    obtain ⟨o, e, _⟩ := id iu
    exact Heap.lt_size e
  refine callType_new F.called_zip (by decide) (F.typeCall_zip_2 _ _) (F.newCall_zip_2 _ _) (fun obj => F.args_object_init_3 obj _ _) F.entry_zip_new (madeMixed a b us2.toArray vs2.toArray) ⟨iu, iv.isList, ?_⟩
  have st := zMixedAt s1.heap a b
  refine ⟨⟨_, st.1.1, rfl⟩, wpAny_pyIter_zip st.1.1 ?_⟩
  have I2 : Inv X pins σ H1 { s1 with heap := zMixed s1.heap a b } := I1.kept (t' := s1.toks) fun c o e => zMixed_old e
  refine ⟨s1.heap.objs.size + 4, zFive (s1.heap.objs.size + 4) (s1.heap.objs.size + 2) (s1.heap.objs.size + 3) s1.heap.objs.size (s1.heap.objs.size + 1), _, _, H1, rfl, I2, turnM (PySem.W.ktu_apart s1.heap.objs.size a b la iv.lt), st, fun c hc => ?_, q2⟩
  have le : s1.heap.objs.size ≤ c := by
    rcases ofZf hc with rfl | rfl | rfl | rfl | rfl <;> omega
  exact I1.fpOk le (I1.hok.fresh le)
/-- a loop over zip of a tuple and a list of one length -/
theorem for_zipM {K : PySem.W.Frag} {a b : Addr} {xs ys : List V} {g : TG} {tb : TS} {D : Ends} {σ : L2.St} {H : Hp} (hl : xs.length = ys.length) (Pv : Nat → L2.St → Hp → Prop) (h0 : Pv 0 σ H) (hq : ∀ i σ H, Pv i σ H → SqT K H a xs ∧ SqL K H b ys)
    (hs : ∀ (i : Nat) (x y : V) (T : Addr) (σ : L2.St) (H : Hp), xs[i]? = some x → ys[i]? = some y → Pv i σ H → H T = none → g (.ref T) σ (upd H T (.tup [x, y])) fun σ2 H2 => tb { D with nx := Pv (i + 1), ct := Pv (i + 1), bk := D.nx } σ2 H2) (hd : ∀ σ H, Pv xs.length σ H → D.nx σ H) :
    ∃ W : Nat → Nat → L2.St → Hp → Prop, (∃ m, W 0 m σ H) ∧ ∀ i m σ H, W i m σ H →
      ((ItzM K a b).stop i H ∧ D.nx σ H) ∨ ((ItzM K a b).go i H ∧ ∃ N : L2.St → Hp → Prop, (∀ σ' H', N σ' H' → ∃ m', m' < m ∧ W (i + 1) m' σ' H') ∧ ∀ v H', (ItzM K a b).yld i H v H' → g v σ H' fun σ2 H2 => tb { D with nx := N, ct := N, bk := D.nx } σ2 H2) := by
  refine ⟨fun i m σ H => (m = xs.length - i ∧ i ≤ xs.length) ∧ Pv i σ H, ⟨xs.length, ⟨rfl, Nat.zero_le _⟩, h0⟩, ?_⟩
  rintro i m σ H ⟨⟨rfl, hi⟩, p⟩
  obtain ⟨qx, qy⟩ := hq i σ H p
  rcases Nat.lt_or_ge i xs.length with lt | ge
  · refine .inr ⟨⟨xs, ys, xs[i], ys[i], qx, qy, by simp [lt], by simp [hl ▸ lt]⟩, Pv (i + 1), fun σ' H' p' => ⟨xs.length - (i + 1), by omega, ⟨rfl, lt⟩, p'⟩, ?_⟩
    rintro v H' ⟨T, x', y', rfl, hT, rfl, f1, f2⟩
    exact hs i x' y' T σ H (f1 xs qx) (f2 ys qy) p hT
  · obtain rfl : i = xs.length := by omega
    exact .inl ⟨⟨xs, ⟨ys, qy⟩, qx, Nat.le_refl _⟩, hd σ H p⟩
end Kv
/-! sum(xs, start) of a list of lists -/
namespace Kv
open PySem PySem.Spec PyProof.Rows L2
section
variable {prog : Program} {w : World} {A : Around} {R : Result → Shared → Prop}
theorem args_sum2 (a b : Value) : argsOk "sum" ⟨[a, b], []⟩ := by unfold argsOk; kernel_rfl
abbrev LsAt (h : Heap) (c : Addr) (xs : Array Value) (m : Nat) : Prop := h.get? c = some { cls := .type "list", data := .seq xs m }
theorem loop_lists {I a S c0 : Addr} {items : Array Value} {L : Nat → Array Value} {h0 : Heap} (hh : A.handled = none) (hne : a ≠ I) (hSI : S ≠ I) (hSa : S ≠ a)
    (hx : ∀ i, i < items.size → ∃ x k, items[i]? = some (.ref x) ∧ x ≠ I ∧ x ≠ S ∧ LsAt h0 x (L i) k)
    (cat : Nat → Array Value) (hcat : ∀ i, cat (i + 1) = cat i ++ L i) (hsz : ∀ i, i < items.size → (cat i).size + (L i).size ≤ sizeLine) :
    ∀ (k i : Nat) (s : Shared) (c m cc : Nat), items.size - i = k → i ≤ items.size → (s.heap.IsListIter I a i ∧ s.heap.IsList a items) → s.heap.get? S = some { cls := .type "list", dict := none, data := .seq #[.ref c] cc, slots := #[] } → LsAt s.heap c (cat i) m → c ≠ I → c ≠ S →
      (c = c0 ∨ I < c) → (∀ b o, b ≠ I → b ≠ S → h0.get? b = some o → s.heap.get? b = some o) →
      (∀ h' tk c' m', (∀ b o, b ≠ I → b ≠ S → h0.get? b = some o → h'.get? b = some o) → LsAt h' c' (cat items.size) m' → (c' = c0 ∨ I < c') → R (.ok (.ret (.ref c'))) { s with heap := h', toks := tk }) →
      codeAny (model prog w) A (.builtin "sum.loop" ⟨[.ref I, .ref S, rawInt 2, rawInt 0], []⟩) R s := by
  have W := Walks.list (prog := prog) (w := w) (A := A.in1) hh I a hne items
  have nI : ∀ {b : Addr}, b ≠ I → b ∉ [I] := fun h hm => h (List.mem_singleton.mp hm)
  intro k
  induction k with
  | zero =>
    intro i s c m cc hk hi hst hS hc hcI hcS hold keep hR
    have hin : i = items.size := by omega
    subst hin
    refine codeAny_builtin F.entry_sum_loop ?_
    rw [Around.under_plainId F.plain_sum_loop _]
    show wpAny _ A.in1 (seqItems? (.ref S) >>= _) _ _ s
    refine wpAny_bind (wpAny_seqItems hS rfl ?_)
    show wpAny _ A.in1 (tryCatch (pyNext (.ref I)) _ >>= _) _ _ s
    refine wpAny_bind (wpAny_tryCatch (W.done s _ _ hst fun h' tk hk' => ?_))
    exact wpAny_pure (hR h' tk c m (fun b o b1 b2 e => hk' b o (nI b1) (keep b o b1 b2 e)) (hk' c _ (nI hcI) hc) hold)
  | succ k ih =>
    intro i s c m cc hk hi hst hS hc hcI hcS hold keep hR
    have hlt : i < items.size := by omega
    refine codeAny_builtin F.entry_sum_loop ?_
    rw [Around.under_plainId F.plain_sum_loop _]
    show wpAny _ A.in1 (seqItems? (.ref S) >>= _) _ _ s
    refine wpAny_bind (wpAny_seqItems hS rfl ?_)
    show wpAny _ A.in1 (tryCatch (pyNext (.ref I)) _ >>= _) _ _ s
    refine wpAny_bind (wpAny_tryCatch (W.item i s _ _ hlt hst fun v h' tk hP hst' hk' => ?_))
    obtain ⟨x, kx, e1, xI, xS, ex⟩ := hx i hlt
    have ev : v = .ref x := Option.some.inj (hP.symm.trans e1)
    subst ev
    have hS' := hk' S _ (nI hSI) hS
    have hc' : LsAt h' c (cat i) m := hk' c _ (nI hcI) hc
    have hx' : LsAt h' x (L i) kx := hk' x _ (nI xI) (keep x _ xI xS ex)
    have ltI : I < h'.objs.size := by
      obtain ⟨o, eo, _⟩ := hst'.1
      exact Heap.lt_size eo
    have ltS : S < h'.objs.size := Heap.lt_size hS'
    show wpAny _ A.in1 ((holding [Value.ref x] (binaryOp .Add (.ref c) (.ref x))).attempt >>= _) _ _ _
    refine wpAny_bind (wpAny_attempt (wpAny_holding (PySem.P.add_list hc' hx' ?_ (hsz i hlt))))
    have hS1 : (h'.push { cls := .type "list", data := .seq (cat i ++ L i) }).get? S = some { cls := .type "list", dict := none, data := .seq #[.ref c] cc, slots := #[] } := Heap.get?_push_of_some _ hS'
    show wpAny _ A.in1 (updateSeq S (fun _ => #[Value.ref h'.objs.size]) >>= _) _ _ _
    refine wpAny_bind (wpAny_updateSeq hS1 rfl ?_)
    have hS2 := Heap.get?_update_self (Obj.mapSeq fun _ => #[Value.ref h'.objs.size]) hS1 rfl
    refine wpAny_bind (wpAny_letGo ?_)
    have old : ∀ b o, b ≠ S → h'.get? b = some o → (((h'.push { cls := .type "list", data := .seq (cat i ++ L i) }).update S (Obj.mapSeq fun _ => #[Value.ref h'.objs.size])).update S (Obj.mapSeq fun _ => #[Value.ref h'.objs.size])).get? b = some o := fun b o bS e =>
      (Heap.get?_update_other _ _ (Ne.symm bS)).trans ((Heap.get?_update_other _ _ (Ne.symm bS)).trans (Heap.get?_push_of_some _ e))
    have new : LsAt (((h'.push { cls := .type "list", data := .seq (cat i ++ L i) }).update S (Obj.mapSeq fun _ => #[Value.ref h'.objs.size])).update S (Obj.mapSeq fun _ => #[Value.ref h'.objs.size])) h'.objs.size (cat (i + 1)) 0 := by
      rw [hcat]
      exact (Heap.get?_update_other _ _ (Nat.ne_of_lt ltS)).trans ((Heap.get?_update_other _ _ (Nat.ne_of_lt ltS)).trans (Heap.get?_push_size _ rfl))
    refine wpAny_bind (wpAny_updateSeq hS2 rfl (wpAny_pure ⟨plainId_quiet F.plain_sum_loop _, ih (i + 1) _ h'.objs.size 0 _ (by omega) hlt ?_ (Heap.get?_update_self _ hS2 rfl) new (Nat.ne_of_gt ltI) (Nat.ne_of_gt ltS) ?_ ?_ fun h'' tk'' c'' m'' q1 q2 q3 => ?_⟩))
    · refine W.frame _ _ _ hst' fun b hb o e => old b o (fun z => ?_) e
      rcases List.mem_cons.mp hb with q | q
      · exact hSI (z.symm.trans q)
      · exact hSa (z.symm.trans (List.mem_singleton.mp q))
    · exact Or.inr ltI
    · exact fun b o b1 b2 e => old b o b2 (hk' b o (nI b1) (keep b o b1 b2 e))
    · exact hR h'' tk'' c'' m'' q1 q2 q3
theorem sum_lists {E : Value → Shared → Prop} {s : Shared} {a b : Addr} {items : Array Value} {L : Nat → Array Value} {Q : Value → Shared → Prop} (hh : A.handled = none) (hl : s.heap.IsList a items)
    (hx : ∀ i, i < items.size → ∃ x k, items[i]? = some (.ref x) ∧ LsAt s.heap x (L i) k) {mb : Nat} {xs0 : Array Value} (hb : LsAt s.heap b xs0 mb)
    (cat : Nat → Array Value) (hcat : ∀ i, cat (i + 1) = cat i ++ L i) (h0 : cat 0 = xs0) (hsz : ∀ i, i < items.size → (cat i).size + (L i).size ≤ sizeLine)
    (h : ∀ h' tk c' m', (∀ b o, s.heap.get? b = some o → h'.get? b = some o) → LsAt h' c' (cat items.size) m' → (c' = b ∨ s.heap.objs.size < c') → Q (.ref c') { s with heap := h', toks := tk }) :
    wpAny (model prog w) A (call (.builtin "sum") [.ref a, .ref b]) Q E s := by
  refine call_function_tree F.kind_sum F.plain_sum F.entry_sum (args_sum2 _ _) ?_
  unfold Builtin.«sum»
  simp only [List.length_cons, List.length_nil]
  rw [if_neg (by decide)]
  refine wpAny_bind (wpAny_of_eq (show Builtin.Builtins.bindParams "sum" ["start"] 0 ⟨[.ref b], []⟩ = pure [some (.ref b)] from rfl) ?_)
  refine wpAny_bind (iter_any hl fun s2 e2 st hne => ?_)
  subst e2
  refine wpAny_bind (wpAny_pure ?_)
  have hb2 : LsAt (s.heap.push { cls := .type "list_iterator", data := .fields #[.ref a, .int 0 0] }) b xs0 mb := Heap.get?_push_of_some _ hb
  have ty : ∀ g d t o, Shared.TypeIs ⟨s.heap.push { cls := .type "list_iterator", data := .fields #[.ref a, .int 0 0] }, g, d, t, o⟩ (.ref b) "list" := fun _ _ _ _ => ⟨_, hb2, rfl⟩
  simp only [List.forIn_cons, List.forIn_nil]
  refine wpAny_bind (wpAny_bind (wpAny_bind (wpAny_isInstance (T := "list") (b := false) (ty _ _ _ _) F.sub_list_str ?_)))
  simp only [Bool.false_eq_true, if_false]
  refine wpAny_pure (wpAny_bind (wpAny_bind (wpAny_isInstance (T := "list") (b := false) (ty _ _ _ _) F.sub_list_bytes ?_)))
  simp only [Bool.false_eq_true, if_false]
  refine wpAny_pure (wpAny_bind (wpAny_bind (wpAny_isInstance (T := "list") (b := false) (ty _ _ _ _) F.sub_list_bytearray ?_)))
  simp only [Bool.false_eq_true, if_false]
  refine wpAny_pure (wpAny_pure ?_)
  refine wpAny_bind (wpAny_newObj_type ?_)
  have lt : ∀ {c : Addr} {o : Obj}, s.heap.get? c = some o → c < s.heap.objs.size := fun e => Heap.lt_size e
  have size1 : (s.heap.push { cls := .type "list_iterator", data := .fields #[.ref a, .int 0 0] }).objs.size = s.heap.objs.size + 1 := Heap.size_push ..
  have neI : ∀ {c : Addr} {o : Obj}, s.heap.get? c = some o → c ≠ s.heap.objs.size := fun e => Nat.ne_of_lt (lt e)
  have neS : ∀ {c : Addr} {o : Obj}, s.heap.get? c = some o → c ≠ (s.heap.push { cls := .type "list_iterator", data := .fields #[.ref a, .int 0 0] }).objs.size := fun e => by
    rw [size1]
    exact Nat.ne_of_lt (Nat.lt_succ_of_lt (lt e))
  obtain ⟨oa, ea, _⟩ := id hl
  have keep0 : ∀ c o, s.heap.get? c = some o → ((s.heap.push { cls := .type "list_iterator", data := .fields #[.ref a, .int 0 0] }).push { cls := .type "list", data := .seq #[Value.ref b] }).get? c = some o := fun c o e => Heap.get?_push_of_some _ (Heap.get?_push_of_some _ e)
  refine wpAny_pure ⟨plainId_quiet F.plain_sum_loop _, loop_lists (A := A) (I := s.heap.objs.size) (a := a) (S := (s.heap.push { cls := .type "list_iterator", data := .fields #[.ref a, .int 0 0] }).objs.size) (c0 := b) (items := items) (L := L) (h0 := s.heap) hh hne ?_ (neS ea).symm
    (fun i hi => ?_) cat hcat hsz _ 0 _ b mb 0 rfl (Nat.zero_le _) ?_ (Heap.get?_push_size _ rfl) ?_ (neI hb) (neS hb) (Or.inl rfl) (fun c o _ _ e => keep0 c o e) fun h' tk c' m' q1 q2 q3 => ?_⟩
  · rw [size1]
    exact Nat.ne_of_gt (Nat.lt_succ_self _)
  · obtain ⟨x, k, e1, e2⟩ := hx i hi
    exact ⟨x, k, e1, neI e2, neS e2, e2⟩
  · refine (Walks.list (prog := prog) (w := w) (A := A) hh s.heap.objs.size a hne items).frame _ _ _ st fun c _ o e => Heap.get?_push_of_some _ e
  · rw [h0]
    exact Heap.get?_push_of_some _ hb2
  · exact h h' tk c' m' (fun c o e => q1 c o (neI e) (neS e) e) q2 q3
end
/-- lists of ints, one behind another -/
def LstsAt (K : PySem.W.Frag) (H : Hp) : List V → List (List Int) → Prop
  | [], [] => True
  | v :: vs, l :: ls => (∃ T, v = .ref T ∧ H T = some (.lst (l.map V.int))) ∧ LstsAt K H vs ls
  | _, _ => False
theorem LstsAt.length {K : PySem.W.Frag} {H : Hp} : ∀ {vs : List V} {ls : List (List Int)}, LstsAt K H vs ls → vs.length = ls.length
  | [], [], _ => rfl
  | _ :: _, _ :: _, ⟨_, t⟩ => congrArg (· + 1) (LstsAt.length t)
  | [], _ :: _, h => h.elim
  | _ :: _, [], h => h.elim
theorem LstsAt.get {K : PySem.W.Frag} {H : Hp} : ∀ {vs : List V} {ls : List (List Int)}, LstsAt K H vs ls → ∀ {i : Nat} {x : V}, vs[i]? = some x → ∃ T l, x = .ref T ∧ ls[i]? = some l ∧ H T = some (.lst (l.map V.int))
  | [], [], _, _, _, e => by cases e
  | v :: vs, l :: ls, ⟨⟨T, e, hT⟩, t⟩, i, x, hx => by
    cases i with
    | zero =>
      cases hx
      exact ⟨T, l, e, rfl, hT⟩
    | succ i => exact LstsAt.get t (i := i) hx
  | [], _ :: _, h, _, _, _ => h.elim
  | _ :: _, [], h, _, _, _ => h.elim
/-- the items of the list at an item -/
def itemsAt (h : Heap) (its : Array Value) (i : Nat) : Array Value := match its[i]? with
  | some (.ref x) => (match h.get? x with
    | some ⟨_, _, .seq vs _, _⟩ => vs
    | _ => #[])
  | _ => #[]
def catTo (L : Nat → Array Value) : Nat → Array Value
  | 0 => #[]
  | i + 1 => catTo L i ++ L i
/-- sum(xs, []) of a list of lists of ints -/
def rSumL (K : PySem.W.Frag) : List V → Hp → VK → Prop := fun vs H Q => ∃ (a b : Addr) (ws : List V) (ts : List (List Int)), vs = [.ref a, .ref b] ∧ SqL K H a ws ∧ LstsAt K H ws ts ∧ H b = some (.lst []) ∧ ts.flatten.length ≤ 1000000 ∧
  ∀ p H2, Same H H2 → H2 p = some (.lst (ts.flatten.map V.int)) → Q (.ref p) H2
theorem takeS {α : Type} : ∀ (l : List α) {i : Nat} {y : α}, l[i]? = some y → l.take (i + 1) = l.take i ++ [y]
  | [], i, y, h => by simp at h
  | a :: l, 0, y, h => by
    have e : a = y := Option.some.inj h
    rw [e]
    rfl
  | a :: l, i + 1, y, h => congrArg (a :: ·) (takeS l (i := i) (y := y) h)
theorem cr_sumL {X : Cx} (hc : X.calm = true) : CallR X (.builtin "sum") (rSumL X.K) := by
  intro pins s σ H vs us Q I r h
  obtain ⟨a, b, ws, ts, rfl, hs, ht, hb, fl, q⟩ := h
  obtain ⟨its, rv, hl, hz⟩ := I.list hs
  have eus : us = [.ref a, .ref b] := by
    cases r with
    | cons r1 r =>
      cases r with
      | cons r2 r =>
        cases r
        cases (show _ = Value.ref a from r1)
        cases (show _ = Value.ref b from r2)
        rfl
  subst eus
  obtain ⟨_, itb, nb, rb, _, eb⟩ := I.lstM hb
  cases rb
  have wl := ht.length
  have il : its.length = ws.length := rv.length.symm
  have each : ∀ i, i < its.length → ∃ x k l, its[i]? = some (.ref x) ∧ ts[i]? = some l ∧ LsAt s.heap x (itemsAt s.heap its.toArray i) k ∧ Vals (l.map V.int) (itemsAt s.heap its.toArray i).toList := fun i hi => by
    have hi2 : i < ws.length := by omega
    obtain ⟨T, l, e1, e2, e3⟩ := ht.get (List.getElem?_eq_getElem hi2)
    obtain ⟨_, vs, n, r2, _, e4⟩ := I.lstM e3
    have e5 : its[i]? = some (.ref T) := by
      obtain ⟨u, hu, hr⟩ := rv.get (i := i) (List.getElem?_eq_getElem hi2)
      rw [e1] at hr
      cases (show u = Value.ref T from hr)
      exact hu
    have e6 : itemsAt s.heap its.toArray i = vs.toArray := by
      unfold itemsAt
      rw [List.getElem?_toArray, e5]
      dsimp only
      rw [e4]
    exact ⟨T, n, l, e5, e2, by rw [e6]; exact e4, by rw [e6]; exact r2⟩
  have cat : ∀ i, i ≤ its.length → Vals ((ts.take i).flatten.map V.int) (catTo (itemsAt s.heap its.toArray) i).toList := fun i => by
    induction i with
    | zero =>
      intro _
      rw [List.take_zero]
      exact .nil
    | succ i ih =>
      intro hi
      obtain ⟨x, k, l, _, e2, _, e4⟩ := each i hi
      have h2 : ([l] : List (List Int)).flatten = l := by simp
      show Vals _ (catTo (itemsAt s.heap its.toArray) i ++ itemsAt s.heap its.toArray i).toList
      rw [takeS ts e2, List.flatten_append, h2, List.map_append, Array.toList_append]
      exact (ih (by omega)).append e4
  have size : ∀ i, i ≤ its.length → (catTo (itemsAt s.heap its.toArray) i).size ≤ 1000000 := fun i hi => by
    have h1 := (cat i hi).length
    rw [List.length_map] at h1
    have h3 : (catTo (itemsAt s.heap its.toArray) i).toList.length = (catTo (itemsAt s.heap its.toArray) i).size := Array.length_toList
    have h2 : ts.flatten = (ts.take i).flatten ++ (ts.drop i).flatten := by rw [← List.flatten_append, List.take_append_drop]
    rw [h2, List.length_append] at fl
    omega
  refine sum_lists (I.ok.hd hc) hl.isList (L := itemsAt s.heap its.toArray) (fun i hi => ?_) eb (catTo (itemsAt s.heap its.toArray)) (fun i => rfl) rfl (fun i hi => ?_) fun h' tk c' m' kp hc' hor => ?_
  · obtain ⟨x, k, l, e1, _, e3, _⟩ := each i (by simpa using hi)
    exact ⟨x, k, by rw [List.getElem?_toArray]; exact e1, e3⟩
  · have h1 := size (i + 1) (by
      rw [List.size_toArray] at hi
      exact hi)
    have h2 : (catTo (itemsAt s.heap its.toArray) (i + 1)).size = (catTo (itemsAt s.heap its.toArray) i).size + (itemsAt s.heap its.toArray i).size := Array.size_append
    rw [← h2]
    exact Nat.le_trans h1 (by decide)
  · have vl := cat its.length (Nat.le_refl _)
    have et : (ts.take its.length).flatten = ts.flatten := by rw [List.take_of_length_le (by omega)]
    rw [et] at vl
    rw [List.size_toArray] at hc'
    rcases hor with rfl | hlt
    · have e5 := (kp _ _ eb).symm.trans hc'
      have e6 : (catTo (itemsAt s.heap its.toArray) its.length).toList = [] := by
        have e7 := Obj.mk.inj (Option.some.inj e5)
        have e8 := Data.seq.inj e7.2.2.1
        rw [← e8.1]
      rw [e6] at vl
      have e9 : ts.flatten.map V.int = [] := by
        cases h9 : ts.flatten.map V.int with
        | nil => rfl
        | cons y ys =>
          rw [h9] at vl
          cases vl
      exact ⟨.ref _, H, I.kept kp, rfl, q _ H (Same.refl _) (by rw [e9]; exact hb)⟩
    · have free : H c' = none := I.hok.fresh (Nat.le_of_lt hlt)
      have zl : (ts.flatten.map V.int).length ≤ sizeLine := by
        rw [List.length_map]
        exact Nat.le_trans fl (by decide)
      refine ⟨.ref c', upd H c' (.lst (ts.flatten.map V.int)), I.laid (t' := tk) kp (Nat.le_of_lt hlt) ⟨zl, _, m', vl, hc'⟩, rfl, q _ _ (sameNew free) upd_same⟩
end Kv
/-! readings that give things none of whose tuples and lists has more than n items -/
namespace Kv
open PySem PySem.Spec PyProof.Rows L2
mutual
def wdB (n : Nat) : PyData → Bool
  | .tuple ds => decide (ds.length ≤ n) && wdBs n ds
  | .list ds => decide (ds.length ≤ n) && wdBs n ds
  | _ => true
def wdBs (n : Nat) : List PyData → Bool
  | [] => true
  | d :: ds => wdB n d && wdBs n ds
end
theorem wdBs_all {n : Nat} : ∀ {ds : List PyData}, wdBs n ds = true ↔ ∀ d ∈ ds, wdB n d = true
  | [] => ⟨fun _ d hd => (nomatch hd), fun _ => (by unfold wdBs; rfl)⟩
  | d :: ds => by
    have ih := wdBs_all (n := n) (ds := ds)
    unfold wdBs
    rw [Bool.and_eq_true, ih]
    constructor
    · rintro ⟨h1, h2⟩ e he
      rcases List.mem_cons.mp he with q | q
      · rw [q]
        exact h1
      · exact h2 e q
    · exact fun h => ⟨h d List.mem_cons_self, fun e he => h e (List.mem_cons_of_mem _ he)⟩
theorem wdTup {n : Nat} {ds : List PyData} : wdB n (.tuple ds) = true ↔ ds.length ≤ n ∧ ∀ d ∈ ds, wdB n d = true := by
  have e : wdB n (.tuple ds) = (decide (ds.length ≤ n) && wdBs n ds) := by
    conv => lhs; unfold wdB
  rw [e, Bool.and_eq_true, decide_eq_true_iff, wdBs_all]
theorem wdLst {n : Nat} {ds : List PyData} : wdB n (.list ds) = true ↔ ds.length ≤ n ∧ ∀ d ∈ ds, wdB n d = true := by
  have e : wdB n (.list ds) = (decide (ds.length ≤ n) && wdBs n ds) := by
    conv => lhs; unfold wdB
  rw [e, Bool.and_eq_true, decide_eq_true_iff, wdBs_all]
mutual
theorem wdB.up {n m : Nat} (h : n ≤ m) : ∀ d : PyData, wdB n d = true → wdB m d = true
  | .tuple ds, e => by
    unfold wdB at e ⊢
    rw [Bool.and_eq_true, decide_eq_true_iff] at e ⊢
    exact ⟨Nat.le_trans e.1 h, wdBs.up h ds e.2⟩
  | .list ds, e => by
    unfold wdB at e ⊢
    rw [Bool.and_eq_true, decide_eq_true_iff] at e ⊢
    exact ⟨Nat.le_trans e.1 h, wdBs.up h ds e.2⟩
  | .none, _ => by unfold wdB; rfl
  | .bool _, _ => by unfold wdB; rfl
  | .int _, _ => by unfold wdB; rfl
  | .str _, _ => by unfold wdB; rfl
  | .dict _, _ => by unfold wdB; rfl
theorem wdBs.up {n m : Nat} (h : n ≤ m) : ∀ ds : List PyData, wdBs n ds = true → wdBs m ds = true
  | [], _ => by unfold wdBs; rfl
  | d :: ds, e => by
    unfold wdBs at e ⊢
    rw [Bool.and_eq_true] at e ⊢
    exact ⟨wdB.up h d e.1, wdBs.up h ds e.2⟩
end
def ThW (n : Nat) (te : TE) (σ : L2.St) (H : Hp) : Prop := ∀ H1, Same H H1 → ∀ Q : VK, (∀ v d H2, Same H1 H2 → Th H2 v d → wdB n d = true → Q v H2) → te σ H1 Q
def TaW (n k : Nat) (ta : TA) (σ : L2.St) (H : Hp) : Prop := ∀ H1, Same H H1 → ∀ Q : List V → Hp → Prop, (∀ vs ds H2, Same H1 H2 → ThAll H2 vs ds → (∀ d ∈ ds, wdB n d = true) → vs.length = k → Q vs H2) → ta σ H1 Q
section
variable {σ : L2.St} {H : Hp} {te ta tb : TE} {tr : TA} {n k : Nat}
theorem ThW.non : ThW n (tC .non) σ H := fun H1 _ Q k => k _ _ H1 (Same.refl _) .non (by unfold wdB; rfl)
theorem ThW.bl {b : Bool} : ThW n (tC (.bl b)) σ H := fun H1 _ Q k => k _ _ H1 (Same.refl _) (.bl b) (by unfold wdB; rfl)
theorem ThW.int {i : Int} : ThW n (tC (.int i)) σ H := fun H1 _ Q k => k _ _ H1 (Same.refl _) (.int i) (by unfold wdB; rfl)
theorem ThW.str {x : Str} : ThW n (tC (.str x)) σ H := fun H1 _ Q k => k _ _ H1 (Same.refl _) (.str x) (by unfold wdB; rfl)
theorem ThW.neg {i : Int} : ThW n (tUn (rU fun i => .int (-i)) (tC (.int i))) σ H := fun H1 _ Q k => ⟨i, rfl, k _ _ H1 (Same.refl _) (.int (-i)) (by unfold wdB; rfl)⟩
theorem ThW.pow {i j : Int} (h : CPow i j) : ThW n (tOp (rI CPow fun i j => .int (i ^ j.toNat)) (tC (.int i)) (tC (.int j))) σ H := fun H1 _ Q k => ⟨i, j, rfl, rfl, h, k _ _ H1 (Same.refl _) (.int _) (by unfold wdB; rfl)⟩
theorem ThW.var {i : Nat} {v : V} {d : PyData} (e : σ[i]? = some (some v)) (h : Th H v d) (hw : wdB n d = true) : ThW n (tVar i) σ H := fun H1 s Q k => ⟨v, e, k _ _ H1 (Same.refl _) (h.keep s) hw⟩
theorem ThW.dic : ThW n tDNewK σ H := fun H1 _ Q k p np => k _ _ _ (newS np) (.dic (kvs := []) upd_same (Nat.zero_le _)) (by unfold wdB; rfl)
theorem TaW.nil : TaW n 0 tNil σ H := fun H1 _ Q k => k [] [] H1 (Same.refl _) .nil (fun d hd => nomatch hd) rfl
theorem TaW.cons (h : ThW n te σ H) (t : TaW n k tr σ H) : TaW n (k + 1) (tCons te tr) σ H := fun H1 s Q q => h H1 s _ fun v d H2 s2 hv hw => t H2 (s.trans s2) _ fun vs ds H3 s3 hs hws hn => q (v :: vs) (d :: ds) H3 (s2.trans s3) (.cons (hv.keep s3) hs) (fun e he => by
  rcases List.mem_cons.mp he with z | z
  · rw [z]
    exact hw
  · exact hws e z) (by rw [List.length_cons, hn])
theorem ThW.tup (h : TaW n k tr σ H) (hk : k ≤ n) (hn : k ≤ 100 := by decide) : ThW n (tTup tr) σ H := fun H1 s Q q => h H1 s _ fun vs ds H2 s2 hs hw e => ⟨by rw [e]; exact Nat.le_trans hn (by decide), fun p np => q _ _ _ (s2.trans (newS np)) (.tup upd_same (hs.keep (newS np)) (by omega)) (wdTup.mpr ⟨by
  have := hs.length
  omega, hw⟩)⟩
theorem ThW.lst (h : TaW n k tr σ H) (hk : k ≤ n) (hn : k ≤ 1000 := by decide) : ThW n (tLst tr) σ H := fun H1 s Q q => h H1 s _ fun vs ds H2 s2 hs hw e => ⟨by rw [e]; exact Nat.le_trans hn (by decide), fun p np => q _ _ _ (s2.trans (newS np)) (.lst upd_same (hs.keep (newS np))) (wdLst.mpr ⟨by
  have := hs.length
  omega, hw⟩)⟩
/-- a new list of k things -/
theorem lstOfW {Q : VK} (h : TaW n k tr σ H) (hn : k ≤ 1000) (q : ∀ p vs ds H2, H p = none → Same H H2 → H2 p = some (.lst vs) → ThAll H2 vs ds → (∀ d ∈ ds, wdB n d = true) → vs.length = k → Q (.ref p) H2) : tLst tr σ H Q :=
  h H (Same.refl _) _ fun vs ds H2 s2 hs hw e => ⟨by rw [e]; exact Nat.le_trans hn (by decide), fun p np => q p vs ds _ (s2.free np) (s2.trans (newS np)) upd_same (hs.keep (newS np)) hw e⟩
end
end Kv
/-! set(t) of a tuple of ints: which are in, how many -/
namespace Kv
open PySem PySem.Spec PyProof.Rows L2
def rSetTN (K : PySem.W.Frag) (w : World) : List V → Hp → VK → Prop := fun xs H Q => ∃ (l : Addr) (ns : List Int), xs = [.ref l] ∧ SqT K H l (ns.map V.int) ∧ ns.length ≤ 1000 ∧
  ∀ a n, H a = none → n ≤ ns.length → (∀ ys : List Int, ys.Nodup → (∀ k, k ∈ ys ↔ k ∈ ns) → ys.length = n) → Q (.ref a) (upd H a (SetO w a (fun j => decide (j ∈ ns)) n))
theorem cr_setTN {X : Cx} (hc : X.calm = true) : CallR X (.type "set") (rSetTN X.K X.w) := by
  intro pins s σ H xs us Q I r h
  obtain ⟨l, ns, rfl, hs, hn, q⟩ := h
  rw [Vals.ref1 r]
  obtain ⟨its, rv, isT, _⟩ := I.tuple hs
  refine set_of_tup (I.ok.hd hc) isT (by simpa using intsAre_of rv) (by unfold scanBound; omega) fun g tk c hS hc kp => ?_
  have free : H s.heap.objs.size = none := I.hok.fresh (Nat.le_refl _)
  refine ⟨.ref _, _, I.laid (t' := tk) kp (Nat.le_refl _) (setO_new hS), rfl, q _ c free hc fun ys nd hy => ?_⟩
  obtain ⟨o, es, ep, t, ho, hex, hd, hg, hnd, hm, _, _, hsz, _⟩ := hS
  have e := sameCard nd hnd fun k => by rw [hy k, ← hm k, decide_eq_true_iff]
  rw [e, List.length_map, Array.length_toList, hsz]
end Kv
namespace K06
open PySem PySem.Spec PyProof.Rows L2 Kv
def top (i : Nat) : Stmt := PySem.Challenge.pw_sparetrees_k06_whole_trees_packings_and.main.body.getD i (.Pass ⟨0, 0, 0, 0⟩)
abbrev sBadNet___init__ : Stmt := inClass (top 4) 0
theorem scBadNet___init__ : FnScope ["self", "part"] ["self", "part"] (defScope sBadNet___init__) := ⟨rfl, rfl, rfl, by decide +kernel, rfl, by decide +kernel, by decide +kernel⟩
abbrev sis_integer : Stmt := top 6
theorem scis_integer : FnScope ["thing"] ["thing"] (defScope sis_integer) := ⟨rfl, rfl, rfl, by decide +kernel, rfl, by decide +kernel, by decide +kernel⟩
abbrev sis_between : Stmt := top 7
theorem scis_between : FnScope ["thing", "least", "most"] ["thing", "least", "most"] (defScope sis_between) := ⟨rfl, rfl, rfl, by decide +kernel, rfl, by decide +kernel, by decide +kernel⟩
abbrev sis_lot : Stmt := top 8
theorem scis_lot : FnScope ["thing", "bound", "least", "item"] ["thing", "bound"] (defScope sis_lot) := ⟨rfl, rfl, rfl, by decide +kernel, rfl, by decide +kernel, by decide +kernel⟩
abbrev sis_unlike_pair : Stmt := top 9
theorem scis_unlike_pair : FnScope ["thing", "bound", "first", "second"] ["thing", "bound"] (defScope sis_unlike_pair) := ⟨rfl, rfl, rfl, by decide +kernel, rfl, by decide +kernel, by decide +kernel⟩
abbrev sshare_none : Stmt := top 10
theorem scshare_none : FnScope ["lots", "items", "lot", "item"] ["lots"] (defScope sshare_none) := ⟨rfl, rfl, rfl, by decide +kernel, rfl, by decide +kernel, by decide +kernel⟩
abbrev sNet___init__ : Stmt := inClass (top 15) 0
theorem scNet___init__ : FnScope ["self", "many", "root", "links", "number", "link"] ["self", "many", "root", "links"] (defScope sNet___init__) := ⟨rfl, rfl, rfl, by decide +kernel, rfl, by decide +kernel, by decide +kernel⟩
abbrev sNet___eq__ : Stmt := inClass (top 15) 1
theorem scNet___eq__ : FnScope ["self", "other"] ["self", "other"] (defScope sNet___eq__) := ⟨rfl, rfl, rfl, by decide +kernel, rfl, by decide +kernel, by decide +kernel⟩
abbrev sneed_net : Stmt := top 16
theorem scneed_net : FnScope ["thing"] ["thing"] (defScope sneed_net) := ⟨rfl, rfl, rfl, by decide +kernel, rfl, by decide +kernel, by decide +kernel⟩
abbrev sheard_from : Stmt := top 18
theorem scheard_from : FnScope ["net", "begun", "links", "heard", "waiting", "here", "link", "start", "end"] ["net", "begun", "links"] (defScope sheard_from) := ⟨rfl, rfl, rfl, by decide +kernel, rfl, by decide +kernel, by decide +kernel⟩
abbrev sgrows_from : Stmt := top 19
theorem scgrows_from : FnScope ["net", "begun", "thing"] ["net", "begun", "thing"] (defScope sgrows_from) := ⟨rfl, rfl, rfl, by decide +kernel, rfl, by decide +kernel, by decide +kernel⟩
abbrev sis_wood : Stmt := top 20
theorem scis_wood : FnScope ["net", "begun", "thing"] ["net", "begun", "thing"] (defScope sis_wood) := ⟨rfl, rfl, rfl, by decide +kernel, rfl, by decide +kernel, by decide +kernel⟩
abbrev sis_tree : Stmt := top 21
theorem scis_tree : FnScope ["net", "thing"] ["net", "thing"] (defScope sis_tree) := ⟨rfl, rfl, rfl, by decide +kernel, rfl, by decide +kernel, by decide +kernel⟩
abbrev sis_packing : Stmt := top 22
theorem scis_packing : FnScope ["net", "thing", "tree"] ["net", "thing"] (defScope sis_packing) := ⟨rfl, rfl, rfl, by decide +kernel, rfl, by decide +kernel, by decide +kernel⟩
abbrev sis_grown : Stmt := top 23
theorem scis_grown : FnScope ["net", "thing"] ["net", "thing"] (defScope sis_grown) := ⟨rfl, rfl, rfl, by decide +kernel, rfl, by decide +kernel, by decide +kernel⟩
abbrev sheard_places : Stmt := top 24
theorem scheard_places : FnScope ["net", "grown"] ["net", "grown"] (defScope sheard_places) := ⟨rfl, rfl, rfl, by decide +kernel, rfl, by decide +kernel, by decide +kernel⟩
abbrev sheard_by : Stmt := top 25
theorem scheard_by : FnScope ["net", "grown"] ["net", "grown"] (defScope sheard_by) := ⟨rfl, rfl, rfl, by decide +kernel, rfl, by decide +kernel, by decide +kernel⟩
abbrev s_law_hand : Stmt := top 27
theorem sc_law_hand : FnScope ["_law_script", "_law_cells", "_law_cell"] ["_law_script"] (defScope s_law_hand) := ⟨rfl, rfl, rfl, by decide +kernel, rfl, by decide +kernel, by decide +kernel⟩
abbrev s_law_draw : Stmt := top 28
theorem sc_law_draw : FnScope ["_law_hand_here", "_law_many", "_law_cell", "_law_digit", "_law_number"] ["_law_hand_here", "_law_many"] (defScope s_law_draw) := ⟨rfl, rfl, rfl, by decide +kernel, rfl, by decide +kernel, by decide +kernel⟩
abbrev s_law_any : Stmt := top 29
theorem sc_law_any : FnScope ["_law_hand_here", "_law_some"] ["_law_hand_here", "_law_some"] (defScope s_law_any) := ⟨rfl, rfl, rfl, by decide +kernel, rfl, by decide +kernel, by decide +kernel⟩
abbrev s_law_is_int : Stmt := top 30
theorem sc_law_is_int : FnScope ["_law_thing", "_law_least", "_law_most"] ["_law_thing", "_law_least", "_law_most"] (defScope s_law_is_int) := ⟨rfl, rfl, rfl, by decide +kernel, rfl, by decide +kernel, by decide +kernel⟩
abbrev s_law_deep : Stmt := top 31
theorem sc_law_deep : FnScope ["_law_hand_here", "_law_thing", "_law_turn"] ["_law_hand_here"] (defScope s_law_deep) := ⟨rfl, rfl, rfl, by decide +kernel, rfl, by decide +kernel, by decide +kernel⟩
abbrev s_law_odd : Stmt := top 32
theorem sc_law_odd : FnScope ["_law_hand_here", "_law_thing", "_law_odd_here"] ["_law_hand_here", "_law_thing"] (defScope s_law_odd) := ⟨rfl, rfl, rfl, by decide +kernel, rfl, by decide +kernel, by decide +kernel⟩
abbrev s_law_is_lot : Stmt := top 33
theorem sc_law_is_lot : FnScope ["_law_thing", "_law_many", "_law_one", "_law_at"] ["_law_thing", "_law_many"] (defScope s_law_is_lot) := ⟨rfl, rfl, rfl, by decide +kernel, rfl, by decide +kernel, by decide +kernel⟩
abbrev s_law_turned : Stmt := top 34
theorem sc_law_turned : FnScope ["_law_hand_here", "_law_things", "_law_left", "_law_found"] ["_law_hand_here", "_law_things"] (defScope s_law_turned) := ⟨rfl, rfl, rfl, by decide +kernel, rfl, by decide +kernel, by decide +kernel⟩
abbrev s_law_link : Stmt := top 35
theorem sc_law_link : FnScope ["_law_hand_here", "_law_many", "_law_one"] ["_law_hand_here", "_law_many"] (defScope s_law_link) := ⟨rfl, rfl, rfl, by decide +kernel, rfl, by decide +kernel, by decide +kernel⟩
abbrev s_law_grown_links : Stmt := top 36
theorem sc_law_grown_links : FnScope ["_law_hand_here", "_law_many", "_law_root", "_law_heard_here", "_law_found", "_law_place", "_law_one"] ["_law_hand_here", "_law_many", "_law_root"] (defScope s_law_grown_links) := ⟨rfl, rfl, rfl, by decide +kernel, rfl, by decide +kernel, by decide +kernel⟩
abbrev s_law_drawn : Stmt := top 37
theorem sc_law_drawn : FnScope ["_law_hand_here", "_law_most", "_law_trees", "_law_more", "_law_many", "_law_root", "_law_links", "_law_turn"] ["_law_hand_here", "_law_most", "_law_trees", "_law_more"] (defScope s_law_drawn) := ⟨rfl, rfl, rfl, by decide +kernel, rfl, by decide +kernel, by decide +kernel⟩
abbrev s_law_made : Stmt := top 38
theorem sc_law_made : FnScope ["_law_net"] ["_law_net"] (defScope s_law_made) := ⟨rfl, rfl, rfl, by decide +kernel, rfl, by decide +kernel, by decide +kernel⟩
abbrev s_law_reached : Stmt := top 39
theorem sc_law_reached : FnScope ["_law_net", "_law_lot", "_law_places", "_law_found", "_law_turn", "_law_link_here", "_law_one", "_law_other"] ["_law_net", "_law_lot", "_law_places"] (defScope s_law_reached) := ⟨rfl, rfl, rfl, by decide +kernel, rfl, by decide +kernel, by decide +kernel⟩
abbrev s_law_is_grown : Stmt := top 40
theorem sc_law_is_grown : FnScope ["_law_net", "_law_thing", "_law_ends", "_law_link_here", "_law_heard_here", "_law_end"] ["_law_net", "_law_thing"] (defScope s_law_is_grown) := ⟨rfl, rfl, rfl, by decide +kernel, rfl, by decide +kernel, by decide +kernel⟩
abbrev s_law_heard : Stmt := top 41
theorem sc_law_heard : FnScope ["_law_net", "_law_grown", "_law_link_here"] ["_law_net", "_law_grown"] (defScope s_law_heard) := ⟨rfl, rfl, rfl, by decide +kernel, rfl, by decide +kernel, by decide +kernel⟩
abbrev s_law_is_tree : Stmt := top 42
theorem sc_law_is_tree : FnScope ["_law_net", "_law_thing"] ["_law_net", "_law_thing"] (defScope s_law_is_tree) := ⟨rfl, rfl, rfl, by decide +kernel, rfl, by decide +kernel, by decide +kernel⟩
abbrev s_law_is_packing : Stmt := top 43
theorem sc_law_is_packing : FnScope ["_law_net", "_law_thing", "_law_tree", "_law_links"] ["_law_net", "_law_thing"] (defScope s_law_is_packing) := ⟨rfl, rfl, rfl, by decide +kernel, rfl, by decide +kernel, by decide +kernel⟩
abbrev s_law_part : Stmt := top 44
theorem sc_law_part : FnScope ["_law_hand_here", "_law_net", "_law_lot", "_law_grown", "_law_heard_here", "_law_turn", "_law_some", "_law_link_here"] ["_law_hand_here", "_law_net", "_law_lot"] (defScope s_law_part) := ⟨rfl, rfl, rfl, by decide +kernel, rfl, by decide +kernel, by decide +kernel⟩
abbrev s_law_is : Stmt := top 45
theorem sc_law_is : FnScope ["_law_told", "_law_due"] ["_law_told", "_law_due"] (defScope s_law_is) := ⟨rfl, rfl, rfl, by decide +kernel, rfl, by decide +kernel, by decide +kernel⟩
abbrev s_law_bent : Stmt := top 46
theorem sc_law_bent : FnScope ["_law_hand_here", "_law_net", "_law_thing", "_law_many", "_law_kind", "_law_link_here", "_law_one", "_law_gone", "_law_into"] ["_law_hand_here", "_law_net", "_law_thing"] (defScope s_law_bent) := ⟨rfl, rfl, rfl, by decide +kernel, rfl, by decide +kernel, by decide +kernel⟩
abbrev s_law_heard_word : Stmt := top 47
theorem sc_law_heard_word : FnScope ["_law_made_here", "_law_thing", "_law_found", "e"] ["_law_made_here", "_law_thing"] (defScope s_law_heard_word) := ⟨rfl, rfl, rfl, by decide +kernel, rfl, by decide +kernel, by decide +kernel⟩
abbrev s_law_apart : Stmt := top 48
theorem sc_law_apart : FnScope ["_law_hand_here", "_law_net", "_law_left", "_law_found", "_law_turn", "_law_heard_here", "_law_tree", "_law_step", "_law_some", "_law_link_here"] ["_law_hand_here", "_law_net"] (defScope s_law_apart) := ⟨rfl, rfl, rfl, by decide +kernel, rfl, by decide +kernel, by decide +kernel⟩
abbrev s_law_bent_packing : Stmt := top 49
theorem sc_law_bent_packing : FnScope ["_law_hand_here", "_law_net", "_law_thing", "_law_kind", "_law_at", "_law_some"] ["_law_hand_here", "_law_net", "_law_thing"] (defScope s_law_bent_packing) := ⟨rfl, rfl, rfl, by decide +kernel, rfl, by decide +kernel, by decide +kernel⟩
abbrev slaw : Stmt := top 50
theorem sclaw : FnScope ["_law_script", "_law_hand_here", "_law_turn", "_law_net", "_law_made_here", "_law_lot", "_law_thing", "_law_change", "_law_right"] ["_law_script"] (defScope slaw) := ⟨rfl, rfl, rfl, by decide +kernel, rfl, by decide +kernel, by decide +kernel⟩
/-- the defs of the text -/
structure Dn (K : PySem.W.Frag) (mg : Str → Option Value) where
  f_BadNet___init__ : Addr
  fd_BadNet___init__ : FuncData
  D_BadNet___init__ : FunD K "__init__" "BadNet.__init__" (defArgs sBadNet___init__) (defBody sBadNet___init__) (defScope sBadNet___init__) [] [] f_BadNet___init__ fd_BadNet___init__
  b_BadNet___init__ : Binds K fd_BadNet___init__ ["self", "part"] []
  f_is_integer : Addr
  fd_is_integer : FuncData
  D_is_integer : DnP K mg "is_integer" sis_integer ["thing"] f_is_integer fd_is_integer
  f_is_between : Addr
  fd_is_between : FuncData
  D_is_between : DnP K mg "is_between" sis_between ["thing", "least", "most"] f_is_between fd_is_between
  f_is_lot : Addr
  fd_is_lot : FuncData
  D_is_lot : DnP K mg "is_lot" sis_lot ["thing", "bound"] f_is_lot fd_is_lot
  f_is_unlike_pair : Addr
  fd_is_unlike_pair : FuncData
  D_is_unlike_pair : DnP K mg "is_unlike_pair" sis_unlike_pair ["thing", "bound"] f_is_unlike_pair fd_is_unlike_pair
  f_share_none : Addr
  fd_share_none : FuncData
  D_share_none : DnP K mg "share_none" sshare_none ["lots"] f_share_none fd_share_none
  f_Net___init__ : Addr
  fd_Net___init__ : FuncData
  D_Net___init__ : FunD K "__init__" "Net.__init__" (defArgs sNet___init__) (defBody sNet___init__) (defScope sNet___init__) [] [] f_Net___init__ fd_Net___init__
  b_Net___init__ : Binds K fd_Net___init__ ["self", "many", "root", "links"] []
  f_Net___eq__ : Addr
  fd_Net___eq__ : FuncData
  D_Net___eq__ : FunD K "__eq__" "Net.__eq__" (defArgs sNet___eq__) (defBody sNet___eq__) (defScope sNet___eq__) [] [] f_Net___eq__ fd_Net___eq__
  b_Net___eq__ : Binds K fd_Net___eq__ ["self", "other"] []
  f_need_net : Addr
  fd_need_net : FuncData
  D_need_net : DnP K mg "need_net" sneed_net ["thing"] f_need_net fd_need_net
  f_heard_from : Addr
  fd_heard_from : FuncData
  D_heard_from : DnP K mg "heard_from" sheard_from ["net", "begun", "links"] f_heard_from fd_heard_from
  f_grows_from : Addr
  fd_grows_from : FuncData
  D_grows_from : DnP K mg "grows_from" sgrows_from ["net", "begun", "thing"] f_grows_from fd_grows_from
  f_is_wood : Addr
  fd_is_wood : FuncData
  D_is_wood : DnP K mg "is_wood" sis_wood ["net", "begun", "thing"] f_is_wood fd_is_wood
  f_is_tree : Addr
  fd_is_tree : FuncData
  D_is_tree : DnP K mg "is_tree" sis_tree ["net", "thing"] f_is_tree fd_is_tree
  f_is_packing : Addr
  fd_is_packing : FuncData
  D_is_packing : DnP K mg "is_packing" sis_packing ["net", "thing"] f_is_packing fd_is_packing
  f_is_grown : Addr
  fd_is_grown : FuncData
  D_is_grown : DnP K mg "is_grown" sis_grown ["net", "thing"] f_is_grown fd_is_grown
  f_heard_places : Addr
  fd_heard_places : FuncData
  D_heard_places : DnP K mg "heard_places" sheard_places ["net", "grown"] f_heard_places fd_heard_places
  f_heard_by : Addr
  fd_heard_by : FuncData
  D_heard_by : DnP K mg "heard_by" sheard_by ["net", "grown"] f_heard_by fd_heard_by
  f_hand : Addr
  fd_hand : FuncData
  D_hand : DnP K mg "_law_hand" s_law_hand ["_law_script"] f_hand fd_hand
  f_draw : Addr
  fd_draw : FuncData
  D_draw : DnP K mg "_law_draw" s_law_draw ["_law_hand_here", "_law_many"] f_draw fd_draw
  f_any : Addr
  fd_any : FuncData
  D_any : DnP K mg "_law_any" s_law_any ["_law_hand_here", "_law_some"] f_any fd_any
  f_is_int : Addr
  fd_is_int : FuncData
  D_is_int : DnP K mg "_law_is_int" s_law_is_int ["_law_thing", "_law_least", "_law_most"] f_is_int fd_is_int
  f_deep : Addr
  fd_deep : FuncData
  D_deep : DnP K mg "_law_deep" s_law_deep ["_law_hand_here"] f_deep fd_deep
  f_odd : Addr
  fd_odd : FuncData
  D_odd : DnP K mg "_law_odd" s_law_odd ["_law_hand_here", "_law_thing"] f_odd fd_odd
  f_l_is_lot : Addr
  fd_l_is_lot : FuncData
  D_l_is_lot : DnP K mg "_law_is_lot" s_law_is_lot ["_law_thing", "_law_many"] f_l_is_lot fd_l_is_lot
  f_turned : Addr
  fd_turned : FuncData
  D_turned : DnP K mg "_law_turned" s_law_turned ["_law_hand_here", "_law_things"] f_turned fd_turned
  f_link : Addr
  fd_link : FuncData
  D_link : DnP K mg "_law_link" s_law_link ["_law_hand_here", "_law_many"] f_link fd_link
  f_grown_links : Addr
  fd_grown_links : FuncData
  D_grown_links : DnP K mg "_law_grown_links" s_law_grown_links ["_law_hand_here", "_law_many", "_law_root"] f_grown_links fd_grown_links
  f_drawn : Addr
  fd_drawn : FuncData
  D_drawn : DnP K mg "_law_drawn" s_law_drawn ["_law_hand_here", "_law_most", "_law_trees", "_law_more"] f_drawn fd_drawn
  f_made : Addr
  fd_made : FuncData
  D_made : DnP K mg "_law_made" s_law_made ["_law_net"] f_made fd_made
  f_reached : Addr
  fd_reached : FuncData
  D_reached : DnP K mg "_law_reached" s_law_reached ["_law_net", "_law_lot", "_law_places"] f_reached fd_reached
  f_l_is_grown : Addr
  fd_l_is_grown : FuncData
  D_l_is_grown : DnP K mg "_law_is_grown" s_law_is_grown ["_law_net", "_law_thing"] f_l_is_grown fd_l_is_grown
  f_heard : Addr
  fd_heard : FuncData
  D_heard : DnP K mg "_law_heard" s_law_heard ["_law_net", "_law_grown"] f_heard fd_heard
  f_l_is_tree : Addr
  fd_l_is_tree : FuncData
  D_l_is_tree : DnP K mg "_law_is_tree" s_law_is_tree ["_law_net", "_law_thing"] f_l_is_tree fd_l_is_tree
  f_l_is_packing : Addr
  fd_l_is_packing : FuncData
  D_l_is_packing : DnP K mg "_law_is_packing" s_law_is_packing ["_law_net", "_law_thing"] f_l_is_packing fd_l_is_packing
  f_part : Addr
  fd_part : FuncData
  D_part : DnP K mg "_law_part" s_law_part ["_law_hand_here", "_law_net", "_law_lot"] f_part fd_part
  f_is : Addr
  fd_is : FuncData
  D_is : DnP K mg "_law_is" s_law_is ["_law_told", "_law_due"] f_is fd_is
  f_bent : Addr
  fd_bent : FuncData
  D_bent : DnP K mg "_law_bent" s_law_bent ["_law_hand_here", "_law_net", "_law_thing"] f_bent fd_bent
  f_heard_word : Addr
  fd_heard_word : FuncData
  D_heard_word : DnP K mg "_law_heard_word" s_law_heard_word ["_law_made_here", "_law_thing"] f_heard_word fd_heard_word
  f_apart : Addr
  fd_apart : FuncData
  D_apart : DnP K mg "_law_apart" s_law_apart ["_law_hand_here", "_law_net"] f_apart fd_apart
  f_bent_packing : Addr
  fd_bent_packing : FuncData
  D_bent_packing : DnP K mg "_law_bent_packing" s_law_bent_packing ["_law_hand_here", "_law_net", "_law_thing"] f_bent_packing fd_bent_packing
  f_law : Addr
  fd_law : FuncData
  D_law : DnP K mg "law" slaw ["_law_script"] f_law fd_law
end K06
namespace K06
open PySem PySem.Spec PyProof.Rows L2 Kv
/-! ### the drawer: _law_hand, _law_draw, _law_any -/
/-- the fiv items of the drawer's list -/
def fiv (c : Addr) (i d s t : Int) : List V := [.ref c, .int i, .int d, .int s, .int t]
def Zd (c : Addr) (xs : List V) : Prop := ∃ i d s t : Int, 0 ≤ i ∧ xs = fiv c i d s t
/-- the drawer at a -/
def Hand (H : Hp) (a : Addr) : Prop := ∃ (c : Addr) (cells : List Int), H a = some (drz a (Zd c)) ∧ H c = some (.lst (cells.map V.int))
theorem Hand.keep {H H2 : Hp} {a : Addr} (k : Same H H2) (h : Hand H a) : Hand H2 a := by
  obtain ⟨c, cells, h1, h2⟩ := h
  exact ⟨c, cells, k _ _ h1, k _ _ h2⟩
def spDrawC : Sp := fun vs H Q _ => ∃ (a c : Addr) (i d s t m : Int) (cells : List Int), vs = [.ref a, .int m] ∧ 0 < m ∧ m < 1073741824 ∧ 0 ≤ i ∧ H a = some (.lst (fiv c i d s t)) ∧ H c = some (.lst (cells.map V.int)) ∧
  ∀ r i2 d2 s2 t2, 0 ≤ r → r < m → 0 ≤ i2 → Q (.int r) (upd H a (.lst (fiv c i2 d2 s2 t2)))
/-- draw(hand, m): some number below m -/
def spDraw : Sp := fun vs H Q _ => ∃ (a : Addr) (m : Int), vs = [.ref a, .int m] ∧ 0 < m ∧ m < 1073741824 ∧ Hand H a ∧ ∀ r : Nat, (r : Int) < m → Q (.int r) H
/-- any(hand, some): some item -/
def spAny (K : PySem.W.Frag) : Sp := fun vs H Q _ => ∃ (a b : Addr) (xs : List V), vs = [.ref a, .ref b] ∧ Hand H a ∧ SqL K H b xs ∧ 0 < xs.length ∧ xs.length < 1073741824 ∧ ∀ (r : Nat) x, xs[r]? = some x → Q x H
/-- hand(script): a new drawer -/
def spHand (K : PySem.W.Frag) : Sp := fun vs H Q _ => ∃ (a : Addr) (ns : List Int), vs = [.ref a] ∧ SqL K H a (ns.map V.int) ∧ ns.length ≤ 63 ∧ ∀ p H2, H p = none → Same H H2 → Hand H2 p → Q (.ref p) H2
section
variable {P : Program} {w : World} {K : PySem.W.Frag} {mg : Str → Option Value} {base : Heap}
theorem rd5 {a c : Addr} {i d s t j : Int} {v : V} {σ : L2.St} {H : Hp} {Q : VK} (h0 : σ[0]? = some (some (.ref a))) (hA : H a = some (.lst (fiv c i d s t))) (hj : atI (fiv c i d s t) j = some v) (q : Q v H) : tOp (rIxL K) (tVar 0) (tC (.int j)) σ H Q :=
  ⟨_, h0, a, _, j, v, rfl, rfl, SqL.of hA, hj, q⟩
theorem wr5 {a c : Addr} {i d s t : Int} {v : V} {σ : L2.St} {H : Hp} {Q : L2.St → Hp → Prop} (j : Nat) (h0 : σ[0]? = some (some (.ref a))) (hA : H a = some (.lst (fiv c i d s t))) (hj : j < 5) (q : Q σ (upd H a (.lst ((fiv c i d s t).set j v)))) : gSub (tVar 0) (tC (.int (j : Int))) rSetL v σ H Q :=
  ⟨_, h0, a, _, (j : Int), j, rfl, rfl, hA, by
    show ixN 5 (j : Int) = some j
    unfold ixN
    rw [if_pos (by omega), if_pos (by omega)]
    simp, q⟩
theorem ok_drawC (d : Dn K mg) (B : Bn mg) : FnOk P w K mg base CX0 1 d.f_draw d.fd_draw ["_law_hand_here", "_law_many"] spDrawC := by
  refine d.D_draw.F.ok sc_law_draw (fun vs H Q E h => ?_) (fun cdv A outer s H vs Q E hr h => ?_)
  · obtain ⟨a, c, i, d, s, t, m, cells, rfl, _⟩ := h
    rfl
  · obtain ⟨a, c, i, d, sd, t, m, cells, rfl, m0, m1, i0, ha, hc, k⟩ := h
    have nca : c ≠ a := ne_of hc ha (fun z => by
      cases cells with
      | nil => cases z
      | cons y ys => cases z)
    refine ⟨_, PSs.nox ((C8.pss_cut (ps_if (PW.pt (pw_and (pt_cmpR op_eq (pe_ix ix_list (pv 0) pe_int (fun _ _ => rfl)) pe_int (nomark _)) (pw_and1 (pt_cmpR op_lt (pe_ix ix_list (pv 0) pe_int (fun _ _ => rfl)) (pe_callB call_len_seq (by rfl) B.len PySem.boot_len (pa_cons (pe_ix ix_list (pv 0) pe_int (fun _ _ => rfl)) pa_nil)) (nomark _)))))
      (pss_cons (ps_set (i := 2) sc_law_draw.nd rfl (Or.inl rfl) (pe_ix ix_list (pe_ix ix_list (pv 0) pe_int (fun _ _ => rfl)) (pe_ix ix_list (pv 0) pe_int (fun _ _ => rfl)) (fun _ _ => rfl)))
      (pss_cons (ps_asg (pe_op op_add (pe_ix ix_list (pv 0) pe_int (fun _ _ => rfl)) pe_int) (pg_sub (pv 0) pe_int set_list))
      (pss_cons (ps_asg (pe_op op_mod (pe_callTy call_int1 (by rfl) B.int boot_int (pa_cons (pe_op op_add (pe_op op_add (pe_op op_mul (pe_ix ix_list (pv 0) pe_int (fun _ _ => rfl)) pe_int) (pv 2)) pe_int) pa_nil)) pe_int) (pg_sub (pv 0) pe_int set_list))
      (pss_one (ps_if (pt_cmpR op_ge (pv 2) (pe_op op_pow pe_int pe_int) (nomark _))
      (pss_one (ps_asg (pv 2) (pg_sub (pv 0) pe_int set_list))) pss_nil))))) pss_nil) (pss_cons (ps_if (pt_cmpR op_gt (pe_ix ix_list (pv 0) pe_int (fun _ _ => rfl)) pe_int (nomark _))
      (pss_cons (ps_set (i := 3) sc_law_draw.nd rfl (Or.inl rfl) (pe_op op_mod (pe_callTy call_int1 (by rfl) B.int boot_int (pa_cons (pe_ix ix_list (pv 0) pe_int (fun _ _ => rfl)) pa_nil)) (pv 1)))
      (pss_cons (ps_asg (pe_op op_fdivN (pe_ix ix_list (pv 0) pe_int (fun _ _ => rfl)) (pv 1)) (pg_sub (pv 0) pe_int set_list))
      (pss_one (ps_ret (pv 3))))) pss_nil)
      (pss_cons (ps_asg (pe_op op_add (pe_ix ix_list (pv 0) pe_int (fun _ _ => rfl)) pe_int) (pg_sub (pv 0) pe_int set_list))
      (pss_cons (ps_set (i := 4) sc_law_draw.nd rfl (Or.inl rfl) (pe_op op_mod (pe_callTy call_int1 (by rfl) B.int boot_int (pa_cons (pe_op op_mul (pe_callTy call_int1 (by rfl) B.int boot_int (pa_cons (pe_op op_add (pe_ix ix_list (pv 0) pe_int (fun _ _ => rfl)) (pe_op op_mul pe_int (pe_ix ix_list (pv 0) pe_int (fun _ _ => rfl)))) pa_nil)) pe_int) pa_nil)) pe_int))
      (pss_cons (ps_set (i := 4) sc_law_draw.nd rfl (Or.inl rfl) (pe_op op_mod (pe_callTy call_int1 (by rfl) B.int boot_int (pa_cons (pe_op op_mul (pv 4) (pe_op op_add (pe_op op_fdiv (pv 4) pe_int) pe_int)) pa_nil)) pe_int))
      (pss_cons (ps_set (i := 4) sc_law_draw.nd rfl (Or.inl rfl) (pe_op op_mod (pe_callTy call_int1 (by rfl) B.int boot_int (pa_cons (pe_op op_mul (pv 4) (pe_op op_add (pe_op op_fdiv (pv 4) pe_int) pe_int)) pa_nil)) pe_int))
      (pss_one (ps_ret (pe_op op_mod (pe_callTy call_int1 (by rfl) B.int boot_int (pa_cons (pe_op op_fdiv (pv 4) pe_int) pa_nil)) (pv 1))))))))))), ?_⟩
    refine ⟨fun σ' H' => ∃ (i d s t : Int) (v : Option V), 0 ≤ i ∧ σ' = [some (.ref a), some (.int m), v, none, none] ∧ H' = upd H a (.lst (fiv c i d s t)), ?_, ?_⟩
    · -- the first if
      have e0 : upd H a (.lst (fiv c i d sd t)) = H := by
        funext b
        by_cases hb : b = a
        · rw [hb, upd_same, ha]
        · rw [upd_ne hb]
      refine rd5 rfl ha rfl ⟨rfl, _, rfl, ?_⟩
      refine ite2 (fun hd => ?_) (fun hd => ⟨i, d, sd, t, none, i0, rfl, e0.symm⟩)
      refine rd5 rfl ha rfl ?_
      refine rd5 rfl ha rfl ⟨c, _, rfl, Or.inl (SqL.of hc), i, _, rfl, rfl, _, rfl, ?_⟩
      refine ite2 (fun hlt => ?_) (fun hlt => ⟨i, d, sd, t, none, i0, rfl, e0.symm⟩)
      have hlt2 : i < ((cells.map V.int).length : Int) := of_decide_eq_true hlt
      rw [List.length_map] at hlt2
      have hi : i.toNat < cells.length := by omega
      obtain ⟨cell, hcell⟩ : ∃ cell, cells[i.toNat]? = some cell := ⟨cells[i.toNat], List.getElem?_eq_getElem hi⟩
      have hat : atI (cells.map V.int) i = some (.int cell) := by
        have e : i = (i.toNat : Int) := by omega
        rw [e]
        exact atI_nat (by rw [List.getElem?_map, hcell]; rfl)
      refine rd5 rfl ha rfl ?_
      refine rd5 rfl ha rfl ⟨c, _, i, _, rfl, rfl, SqL.of hc, hat, ?_⟩
      refine rd5 rfl ha rfl ⟨i, 1, rfl, rfl, ?_⟩
      refine wr5 1 rfl ha (by decide) ?_
      refine rd5 (i := i + 1) (d := d) (s := sd) (t := t) (c := c) rfl upd_same rfl ⟨sd, 69621, rfl, rfl, Or.inr (by decide), _, rfl, _, cell, rfl, rfl, _, 11, rfl, rfl, Or.inl ⟨_, rfl, _, 2147483629, rfl, rfl, (by show (0 : Int) < 2147483629; decide), ?_⟩⟩
      refine wr5 (i := i + 1) (d := d) (s := sd) (t := t) (c := c) 3 rfl upd_same (by decide) ?_
      rw [upd_upd]
      refine ⟨_, rfl, 10, 18, rfl, rfl, ⟨by decide, by decide, by decide⟩, cell, _, rfl, rfl, _, rfl, ?_⟩
      refine ite2 (fun _ => ?_) (fun _ => ⟨i + 1, d, _, t, some (.int cell), by omega, rfl, rfl⟩)
      refine ⟨_, rfl, ?_⟩
      refine wr5 (i := i + 1) (d := d) (t := t) (c := c) 2 rfl upd_same (by decide) ?_
      rw [upd_upd]
      exact ⟨i + 1, cell, _, t, some (.int cell), by omega, rfl, rfl⟩
    · rintro σ' H' ⟨i, d, sd, t, v, i0, rfl, rfl⟩
      refine rd5 rfl upd_same rfl ⟨d, 0, rfl, rfl, _, rfl, ?_⟩
      refine ite2 (fun hd => ?_) (fun hd => ?_)
      · refine rd5 rfl upd_same rfl (Or.inl ⟨d, rfl, _, rfl, d, m, rfl, rfl, m0, ?_⟩)
        refine rd5 rfl upd_same rfl ⟨_, rfl, d, m, rfl, rfl, ⟨by omega, by omega⟩, ?_⟩
        refine wr5 2 rfl upd_same (by decide) ⟨_, rfl, ?_⟩
        rw [upd_upd]
        exact k (d % m) i _ sd t (Int.emod_nonneg _ (by omega)) (Int.emod_lt_of_pos _ m0) i0
      · refine rd5 rfl upd_same rfl ⟨t, 1, rfl, rfl, ?_⟩
        refine wr5 4 rfl upd_same (by decide) ?_
        rw [upd_upd]
        refine rd5 (i := i) (d := d) (s := sd) (t := t + 1) (c := c) rfl upd_same rfl ?_
        refine rd5 (i := i) (d := d) (s := sd) (t := t + 1) (c := c) rfl upd_same rfl ⟨7919, _, rfl, rfl, Or.inl (by decide), _, _, rfl, rfl, Or.inl ⟨_, rfl, _, 48271, rfl, rfl, Or.inr (by decide), Or.inl ⟨_, rfl, _, 2147483647, rfl, rfl, (by show (0 : Int) < 2147483647; decide), ?_⟩⟩⟩
        have small : ∀ z : Int, 0 ≤ z % 2147483647 ∧ z % 2147483647 < 2147483647 := fun z => ⟨Int.emod_nonneg _ (by decide), Int.emod_lt_of_pos _ (by decide)⟩
        refine ⟨_, rfl, _, rfl, _, 1009, rfl, rfl, ⟨by decide, by decide⟩, _, 69621, rfl, rfl, _, _, rfl, rfl, Or.inl ?_, Or.inl ⟨_, rfl, _, 2147483647, rfl, rfl, (by show (0 : Int) < 2147483647; decide), ?_⟩⟩
        · have := small ((sd + 7919 * (t + 1)) * 48271)
          omega
        refine ⟨_, rfl, _, rfl, _, 2003, rfl, rfl, ⟨by decide, by decide⟩, _, 40692, rfl, rfl, _, _, rfl, rfl, Or.inl ?_, Or.inl ⟨_, rfl, _, 2147483399, rfl, rfl, (by show (0 : Int) < 2147483399; decide), ?_⟩⟩
        · have := small ((sd + 7919 * (t + 1)) * 48271 % 2147483647 * ((sd + 7919 * (t + 1)) * 48271 % 2147483647 / 1009 + 69621))
          omega
        refine ⟨_, rfl, _, 16, rfl, rfl, ⟨by decide, by decide⟩, Or.inl ⟨_, rfl, _, rfl, _, m, rfl, rfl, m0, ?_⟩⟩
        exact k _ i d sd (t + 1) (Int.emod_nonneg _ (by omega)) (Int.emod_lt_of_pos _ m0) i0
theorem ok_draw (d : Dn K mg) (B : Bn mg) : FnOk P w K mg base CX0 1 d.f_draw d.fd_draw ["_law_hand_here", "_law_many"] spDraw := by
  refine shutZ (ok_drawC d B) (fun vs H Q E h => ?_) (fun vs H Q E h => ?_)
  · obtain ⟨a, m, rfl, _⟩ := h
    rfl
  · obtain ⟨a, m, rfl, m0, m1, ⟨c, cells, ha, hc⟩, k⟩ := h
    have nca : c ≠ a := ne_of hc ha (Ne.symm drz_lst)
    refine ⟨a, Zd c, ha, ?_⟩
    rintro xs ⟨i, dd, s, t, i0, rfl⟩
    refine ⟨a, c, i, dd, s, t, m, cells, rfl, m0, m1, i0, upd_same, by rw [upd_ne nca]; exact hc, fun r i2 d2 s2 t2 r0 r1 hi2 => ⟨H, _, ⟨i2, d2, s2, t2, hi2, rfl⟩, by rw [upd_upd], ha, ?_⟩⟩
    have e : r = (r.toNat : Int) := by omega
    rw [e]
    exact k r.toNat (by omega)
theorem ok_any (d : Dn K mg) (B : Bn mg) : FnOk P w K mg base CX0 2 d.f_any d.fd_any ["_law_hand_here", "_law_some"] (spAny K) := by
  have G_draw := ok_draw (P := P) (w := w) (base := base) d B
  refine d.D_any.F.ok sc_law_any (fun vs H Q E h => ?_) (fun cdv A outer s H vs Q E hr h => ?_)
  · obtain ⟨a, b, xs, rfl, _⟩ := h
    rfl
  · obtain ⟨a, b, xs, rfl, hH, hS, l0, l1, k⟩ := h
    refine ⟨_, PSs.nox ((pss_one (ps_ret (pe_ix ix_list (pv 1) (pe_call G_draw (hr.mono (by decide)) (by rfl) d.D_draw.g d.D_draw.F.kp d.D_draw.b .nil pass0 (pa_cons (pv 0) (pa_cons (pe_callB call_len_seq (by rfl) B.len PySem.boot_len (pa_cons (pv 1) pa_nil)) pa_nil))) (fun _ _ => rfl))))), ?_⟩
    refine ⟨_, rfl, _, rfl, _, rfl, b, xs, rfl, Or.inl hS, a, _, rfl, by omega, by omega, hH, fun r hr => ?_⟩
    have hrl : r < xs.length := by omega
    exact ⟨b, xs, (r : Int), xs[r], rfl, rfl, hS, atI_nat (List.getElem?_eq_getElem hrl), k r _ (List.getElem?_eq_getElem hrl)⟩
def spHandC (K : PySem.W.Frag) : Sp := fun vs H Q _ => ∃ (a : Addr) (ns : List Int), vs = [.ref a] ∧ SqL K H a (ns.map V.int) ∧ ns.length ≤ 63 ∧ ∀ p c (s : Int) (cells : List Int) H2, H p = none → c ≠ p → Same H H2 → H2 p = some (.lst (fiv c 0 0 s 0)) → H2 c = some (.lst (cells.map V.int)) → Q (.ref p) H2
theorem ok_handC (d : Dn K mg) (B : Bn mg) : FnOk P w K mg base CX0 1 d.f_hand d.fd_hand ["_law_script"] (spHandC K) := by
  refine d.D_hand.F.ok sc_law_hand (fun vs H Q E h => ?_) (fun cdv A outer s H vs Q E hr h => ?_)
  · obtain ⟨a, ns, rfl, _⟩ := h
    rfl
  · obtain ⟨a, ns, rfl, hS, hlen, k⟩ := h
    refine ⟨_, PSs.nox ((pss_cons (ps_setLc (i := 1) (own := [("_law_cell", 2)]) (g := gName 2) (tt := tYes) rfl sc_law_hand.nd rfl rfl (sw_true rfl rfl rfl (by decide +kernel)) (pi_list (pe_slice sl_list (pv 0) po_none (po_some pe_int)))
        (blkOk_by (N := ["_law_script", "_law_cells", "_law_cell"]) (sc := defScope s_law_hand) (by decide +kernel)) (fun _ _ _ _ _ => pg_name (i := 2) sc_law_hand.nd rfl (Or.inl rfl)) (fun _ _ _ _ _ => pts_nil)
        (fun _ _ _ _ _ => (pe_callB call_abs (by rfl) B.abs boot_abs (pa_cons (pe_callTy call_int1 (by rfl) B.int boot_int (pa_cons (pv 2) pa_nil)) pa_nil))))
      (pss_one (ps_ret (pe_lst (pa_cons (pv 1) (pa_cons pe_int (pa_cons pe_int (pa_cons (pe_op op_add pe_int (pe_callB call_len_seq (by rfl) B.len PySem.boot_len (pa_cons (pv 1) pa_nil))) (pa_cons pe_int pa_nil)))))))))), ?_⟩
    refine ⟨_, rfl, 63, rfl, a, _, rfl, hS, fun p np => ?_⟩
    have itms : ∀ {i : Nat} {x : V}, (cutV (ns.map V.int) none (some 63))[i]? = some x → ∃ z, x = V.int z := fun {i x} e => by
      obtain ⟨z, _, ez⟩ := List.mem_map.mp (mem_cutV (List.mem_of_getElem? e))
      exact ⟨z, ez.symm⟩
    have len63 : (cutV (ns.map V.int) none (some 63)).length ≤ 63 := Nat.le_trans (cutV_length _ _ _) (by rw [List.length_map]; exact hlen)
    refine ⟨p, rfl, ⟨_, SqL.of upd_same⟩, fun C nC => ?_⟩
    have npC : p ≠ C := fun z => by
      rw [← z, upd_same] at nC
      cases nC
    have nC0 : H C = none := by
      rw [upd_ne npC.symm] at nC
      exact nC
    refine lc_list (K := K) (a := p) (xs := cutV (ns.map V.int) none (some 63)) (fun i H2 => Same (upd H p (.lst (cutV (ns.map V.int) none (some 63)))) H2 ∧ ∃ acc : List Int, acc.length = i ∧ H2 C = some (.lst (acc.map V.int)))
      ⟨sameNew nC, [], rfl, upd_same⟩ (fun i H2 _ h2 => SqL.of (h2.1 _ _ upd_same)) (fun i x H2 hx h2 => ?_) (fun H2 h2 => ?_)
    · obtain ⟨s2, acc, rfl, hC⟩ := h2
      obtain ⟨z, rfl⟩ := itms hx
      have hi : acc.length < 63 := Nat.lt_of_lt_of_le (List.getElem?_eq_some_iff.mp hx).1 len63
      refine ⟨rfl, ?_⟩
      refine ⟨_, rfl, Or.inl ⟨z, rfl, z, rfl, _, hC, ?_, ?_⟩⟩
      · rw [List.length_map]
        exact Nat.lt_trans hi (by decide)
      · refine ⟨samePut s2 nC, acc ++ [if z < 0 then -z else z], by simp, ?_⟩
        rw [upd_same, List.map_append]
        rfl
    · obtain ⟨s2, acc, _, hC⟩ := h2
      refine ⟨_, rfl, _, rfl, C, _, rfl, Or.inl (SqL.of hC), 1, _, rfl, rfl, (by show 5 ≤ sizeLine; decide), fun q nq => ?_⟩
      have nqC : C ≠ q := ne_of_none hC nq
      refine k q C _ acc _ ((sameNew np).trans s2 |>.free nq) nqC (((sameNew np).trans s2).trans (sameNew nq)) upd_same ?_
      rw [upd_ne nqC]
      exact hC
theorem ok_hand (d : Dn K mg) (B : Bn mg) : FnOk P w K mg base CX0 1 d.f_hand d.fd_hand ["_law_script"] (spHand K) := by
  refine shutZNew (ok_handC d B) (fun vs H Q E h => ?_) (fun vs H Q E h => ?_)
  · obtain ⟨a, ns, rfl, _⟩ := h
    rfl
  · obtain ⟨a, ns, rfl, hS, hlen, k⟩ := h
    refine ⟨a, ns, rfl, hS, hlen, fun p c s cells H2 np nc s2 hp hc => ⟨p, Zd c, _, ⟨0, 0, s, 0, Int.le_refl _, rfl⟩, hp, k p _ np (samePut s2 np) ⟨c, cells, upd_same, ?_⟩⟩⟩
    rw [upd_ne nc]
    exact hc
end
end K06
namespace K06
open PySem PySem.Spec PyProof.Rows L2 Kv
/-! ### the nets that are drawn: _law_turned, _law_link, _law_grown_links, _law_drawn -/
def spTurned : Sp := fun vs H Q _ => ∃ (a b : Addr) (xs : List V), vs = [.ref a, .ref b] ∧ Hand H a ∧ H b = some (.lst xs) ∧ xs.length ≤ 1000 ∧ ∀ p ys H2, H p = none → Same H H2 → H2 p = some (.lst ys) → ys.Perm xs → Q (.ref p) H2
/-- a link between places below m -/
def Lk (m : Int) (H : Hp) (v : V) : Prop := ∃ p i j, v = .ref p ∧ H p = some (.tup [.int i, .int j]) ∧ 0 ≤ i ∧ i < m ∧ 0 ≤ j ∧ j < m ∧ i ≠ j
theorem Lk.keep {m : Int} {H H2 : Hp} {v : V} (s : Same H H2) (h : Lk m H v) : Lk m H2 v := by
  obtain ⟨p, i, j, e, h1, h2⟩ := h
  exact ⟨p, i, j, e, s _ _ h1, h2⟩
theorem Lk.put {m : Int} {H : Hp} {v : V} {a : Addr} {xs ys : List V} (ha : H a = some (.lst xs)) (h : Lk m H v) : Lk m (upd H a (.lst ys)) v := by
  obtain ⟨p, i, j, e, h1, h2⟩ := h
  refine ⟨p, i, j, e, ?_, h2⟩
  rw [upd_ne (fun z => by rw [z, ha] at h1; cases h1)]
  exact h1
def spLink : Sp := fun vs H Q _ => ∃ (a : Addr) (m : Int), vs = [.ref a, .int m] ∧ Hand H a ∧ 2 ≤ m ∧ m ≤ 10 ∧ ∀ p H2, H p = none → Same H H2 → Lk m H2 (.ref p) → Q (.ref p) H2
def spGrown : Sp := fun vs H Q _ => ∃ (a : Addr) (m r : Int), vs = [.ref a, .int m, .int r] ∧ Hand H a ∧ 2 ≤ m ∧ m ≤ 10 ∧ 0 ≤ r ∧ r < m ∧ ∀ p ws H2, H p = none → Same H H2 → H2 p = some (.lst ws) → (∀ w ∈ ws, Lk m H2 w) → ws.length ≤ 10 → Q (.ref p) H2
/-- a link as data -/
def lkD (e : Int × Int) : PyData := .tuple [.int e.1, .int e.2]
/-- right numbers of a net -/
structure NetR (m r : Int) (ls : List (Int × Int)) : Prop where
  m0 : 2 ≤ m
  m1 : m ≤ 10
  r0 : 0 ≤ r
  r1 : r < m
  len : ls.length ≤ 60
  lk : ∀ e ∈ ls, 0 ≤ e.1 ∧ e.1 < m ∧ 0 ≤ e.2 ∧ e.2 < m ∧ e.1 ≠ e.2
/-- a drawn net's parts -/
structure NetAt (H : Hp) (p : Addr) (m r : Int) (l : Addr) (ws : List V) (ls : List (Int × Int)) : Prop where
  top : H p = some (.tup [.int m, .int r, .ref l])
  at_ : H l = some (.tup ws)
  all : ThAll H ws (ls.map lkD)
  ok : NetR m r ls
theorem NetAt.keep {H H2 : Hp} {p : Addr} {m r : Int} {l : Addr} {ws : List V} {ls : List (Int × Int)} (s : Same H H2) (h : NetAt H p m r l ws ls) : NetAt H2 p m r l ws ls := ⟨s _ _ h.top, s _ _ h.at_, h.all.keep s, h.ok⟩
theorem NetAt.wl {H : Hp} {p : Addr} {m r : Int} {l : Addr} {ws : List V} {ls : List (Int × Int)} (h : NetAt H p m r l ws ls) : ws.length = ls.length := by rw [h.all.length, List.length_map]
theorem lkAll {m : Int} {H : Hp} : ∀ {ws : List V}, (∀ w ∈ ws, Lk m H w) → ∃ ls : List (Int × Int), ThAll H ws (ls.map lkD) ∧ ∀ e ∈ ls, 0 ≤ e.1 ∧ e.1 < m ∧ 0 ≤ e.2 ∧ e.2 < m ∧ e.1 ≠ e.2
  | [], _ => ⟨[], .nil, fun e he => nomatch he⟩
  | w :: ws, h => by
    obtain ⟨p, i, j, rfl, hp, h1, h2, h3, h4, h5⟩ := h w List.mem_cons_self
    obtain ⟨ls, k1, k2⟩ := lkAll (ws := ws) fun x hx => h x (List.mem_cons_of_mem _ hx)
    refine ⟨(i, j) :: ls, .cons (.tup hp (.cons (.int i) (.cons (.int j) .nil)) (by show 2 ≤ 100; decide)) k1, fun e he => ?_⟩
    rcases List.mem_cons.mp he with z | z
    · rw [z]
      exact ⟨h1, h2, h3, h4, h5⟩
    · exact k2 e z
def spDrawn : Sp := fun vs H Q _ => ∃ (a : Addr) (z t k : Int), vs = [.ref a, .int z, .int t, .int k] ∧ Hand H a ∧ 2 ≤ z ∧ z ≤ 10 ∧ 0 ≤ t ∧ t ≤ 20 ∧ 0 ≤ k ∧ k ≤ 100 ∧ ∀ p m r l ws ls H2, H p = none → Same H H2 → NetAt H2 p m r l ws ls → m ≤ z → Q (.ref p) H2
theorem otherPl {i j m : Int} (h1 : 0 ≤ i) (h2 : i < m) (h3 : 0 ≤ j) (h4 : j < m - 1) : 0 ≤ (i + 1 + j) % m ∧ (i + 1 + j) % m < m ∧ i ≠ (i + 1 + j) % m := by
  have a := Int.emod_nonneg (i + 1 + j) (show m ≠ 0 by omega)
  have b := Int.emod_lt_of_pos (i + 1 + j) (show 0 < m by omega)
  refine ⟨a, b, ?_⟩
  by_cases h : i + 1 + j < m
  · rw [Int.emod_eq_of_lt (by omega) h]
    omega
  · rw [← Int.sub_emod_right, Int.emod_eq_of_lt (by omega) (by omega)]
    omega
theorem cutLe (xs : List V) (n : Nat) : (cutV xs none (some (n : Int))).length ≤ n := by
  unfold cutV
  rw [List.length_take, HT.sIx_nat]
  omega
section
variable {P : Program} {w : World} {K : PySem.W.Frag} {mg : Str → Option Value} {base : Heap}
theorem ok_turned (d : Dn K mg) (B : Bn mg) : FnOk P w K mg base CX0 2 d.f_turned d.fd_turned ["_law_hand_here", "_law_things"] spTurned := by
  have G_draw := ok_draw (P := P) (w := w) (base := base) d B
  refine d.D_turned.F.ok sc_law_turned (fun vs H Q E h => ?_) (fun cdv A outer s H vs Q E hr h => ?_)
  · obtain ⟨a, b, xs, rfl, _⟩ := h
    rfl
  · obtain ⟨a, b, xs, rfl, hH, hb, hl, k⟩ := h
    refine ⟨_, PSs.nox ((pss_cons (ps_par (i := 2) (j := 3) rfl sc_law_turned.nd rfl rfl (by decide) rfl rfl (pa_cons (pe_callTy call_list_of (by rfl) B.lst boot_list (pa_cons (pv 1) pa_nil)) (pa_cons (pe_lst pa_nil) pa_nil)) (by rfl))
      (pss_cons (ps_while PassesOwn.never (pt_cmpR op_gt (pe_callB call_len_seq (by rfl) B.len PySem.boot_len (pa_cons (pv 2) pa_nil)) pe_int (nomark _))
      (pss_one (ps_expr (pe_bm PySem.F.plainAttrs_list PySem.F.slot_list_append PySem.F.type_list_append mt_append (pv 3) (pa_cons (pe_bm PySem.F.plainAttrs_list PySem.F.slot_list_pop PySem.F.type_list_pop mt_popAt (pv 2) (pa_cons (pe_call G_draw (hr.mono (by decide)) (by rfl) d.D_draw.g d.D_draw.F.kp d.D_draw.b .nil pass0 (pa_cons (pv 0) (pa_cons (pe_callB call_len_seq (by rfl) B.len PySem.boot_len (pa_cons (pv 2) pa_nil)) pa_nil))) pa_nil)) pa_nil)))))
      (pss_one (ps_ret (pv 3)))))), ?_⟩
    refine ⟨_, rfl, b, xs, rfl, Or.inl (SqL.of hb), fun l nl => ⟨(by show 0 ≤ sizeLine; decide), fun f nf => ⟨_, _, rfl, ?_⟩⟩⟩
    have nlf : l ≠ f := ne_of_none upd_same nf
    have s0 : Same H (upd (upd H l (.lst xs)) f (.lst [])) := samePast (sameNew nl) nf
    have nfH : H f = none := by
      rw [upd_ne (Ne.symm nlf)] at nf
      exact nf
    refine while_by (fun σ2 H2 => ∃ ls fs, σ2 = [some (.ref a), some (.ref b), some (.ref l), some (.ref f)] ∧ Same H H2 ∧ H2 l = some (.lst ls) ∧ H2 f = some (.lst fs) ∧ (fs ++ ls).Perm xs)
      (fun _ H2 => match H2 l with | some (.lst ls) => ls.length | _ => 0) ⟨xs, [], rfl, s0, by rw [upd_ne nlf, upd_same], upd_same, by rw [List.nil_append]⟩ ?_ ?_
    · rintro σ2 H2 ⟨ls, fs, rfl, s2, hl2, hf2, hp⟩
      have lens : fs.length + ls.length = xs.length := by rw [← List.length_append, hp.length_eq]
      refine ⟨_, rfl, l, ls, rfl, Or.inl (SqL.of hl2), (ls.length : Int), 0, rfl, rfl, _, rfl, ?_⟩
      refine ite2 (fun hd => ?_) (fun hd => ?_)
      · have hpos : 0 < ls.length := by
          have := of_decide_eq_true hd
          omega
        refine ⟨_, rfl, Or.inl ⟨rfl, _, SqL.of hf2⟩, _, rfl, Or.inl ⟨rfl, _, SqL.of hl2⟩, _, rfl, _, rfl, l, ls, rfl, Or.inl (SqL.of hl2), a, _, rfl, by omega, by omega, hH.keep s2, fun r hr => ?_⟩
        have hr2 : r < ls.length := by omega
        obtain ⟨y, hy⟩ : ∃ y, ls[r]? = some y := ⟨ls[r], List.getElem?_eq_getElem hr2⟩
        refine ⟨l, ls, (r : Int), r, y, rfl, rfl, hl2, by omega, by omega, seqIx hr2, hy, ?_⟩
        refine ⟨f, fs, y, rfl, rfl, by rw [upd_ne (Ne.symm nlf)]; exact hf2, Nat.lt_of_le_of_lt (show fs.length ≤ 1000 by omega) (by decide), ?_⟩
        refine ⟨⟨ls.eraseIdx r, fs ++ [y], rfl, samePut (samePut s2 nl) nfH, by rw [upd_ne nlf, upd_same], upd_same, ?_⟩, ?_⟩
        · refine List.Perm.trans ?_ hp
          rw [List.append_assoc]
          refine List.Perm.append_left fs ?_
          rw [List.singleton_append]
          exact permErase hy
        · rw [upd_ne nlf, upd_same, hl2]
          show (ls.eraseIdx r).length < ls.length
          rw [List.length_eraseIdx]
          rw [if_pos hr2]
          omega
      · have hz : ls = [] := List.eq_nil_of_length_eq_zero (by
          have : ¬ ((0 : Int) < (ls.length : Int)) := fun z => hd (decide_eq_true z)
          omega)
        subst hz
        rw [List.append_nil] at hp
        exact ⟨_, rfl, k f fs H2 nfH s2 hf2 hp⟩
    · rintro σ2 H2 Q1 Q2 hm ⟨v, h0, p, ys, e, hs, i, j, e1, e2, b2, eb, q⟩
      exact ⟨v, h0, p, ys, e, hs, i, j, e1, e2, b2, eb, hm _ _ q⟩
theorem ok_link (d : Dn K mg) (B : Bn mg) : FnOk P w K mg base CX0 2 d.f_link d.fd_link ["_law_hand_here", "_law_many"] spLink := by
  have G_draw := ok_draw (P := P) (w := w) (base := base) d B
  refine d.D_link.F.ok sc_law_link (fun vs H Q E h => ?_) (fun cdv A outer s H vs Q E hr h => ?_)
  · obtain ⟨a, m, rfl, _⟩ := h
    rfl
  · obtain ⟨a, m, rfl, hH, m0, m1, k⟩ := h
    refine ⟨_, PSs.nox ((pss_cons (ps_set (i := 2) sc_law_link.nd rfl (Or.inl rfl) (pe_call G_draw (hr.mono (by decide)) (by rfl) d.D_draw.g d.D_draw.F.kp d.D_draw.b .nil pass0 (pa_cons (pv 0) (pa_cons (pv 1) pa_nil))))
      (pss_one (ps_ret (pe_tup (pa_cons (pv 2) (pa_cons (pe_op op_mod (pe_callTy call_int1 (by rfl) B.int boot_int (pa_cons (pe_op op_add (pe_op op_add (pv 2) pe_int) (pe_call G_draw (hr.mono (by decide)) (by rfl) d.D_draw.g d.D_draw.F.kp d.D_draw.b .nil pass0 (pa_cons (pv 0) (pa_cons (pe_op op_sub (pv 1) pe_int) pa_nil)))) pa_nil)) (pv 1)) pa_nil))))))), ?_⟩
    refine ⟨_, rfl, _, rfl, a, m, rfl, by omega, by omega, hH, fun i hi => ?_⟩
    refine ⟨_, rfl, _, rfl, _, 1, rfl, rfl, _, rfl, _, rfl, m, 1, rfl, rfl, a, m - 1, rfl, by omega, by omega, hH, fun j hj => ?_⟩
    refine ⟨_, _, rfl, rfl, Or.inl ⟨_, rfl, _, rfl, _, m, rfl, rfl, by omega, (by show 2 ≤ sizeLine; decide), fun p np => ?_⟩⟩
    obtain ⟨x0, x1, x2⟩ := otherPl (i := (i : Int)) (j := (j : Int)) (m := m) (by omega) (by omega) (by omega) (by omega)
    exact k p _ np (sameNew np) ⟨p, _, _, rfl, upd_same, by omega, by omega, x0, x1, x2⟩
theorem ok_grown (d : Dn K mg) (B : Bn mg) : FnOk P w K mg base CX0 3 d.f_grown_links d.fd_grown_links ["_law_hand_here", "_law_many", "_law_root"] spGrown := by
  have G_any := ok_any (P := P) (w := w) (base := base) d B
  have G_turned := ok_turned (P := P) (w := w) (base := base) d B
  refine d.D_grown_links.F.ok sc_law_grown_links (fun vs H Q E h => ?_) (fun cdv A outer s H vs Q E hr h => ?_)
  · obtain ⟨a, m, r, rfl, _⟩ := h
    rfl
  · obtain ⟨a, m, r, rfl, hH, m0, m1, r0, r1, k⟩ := h
    refine ⟨_, PSs.nox ((pss_cons (ps_par (i := 3) (j := 4) rfl sc_law_grown_links.nd rfl rfl (by decide) rfl rfl (pa_cons (pe_lst (pa_cons (pv 2) pa_nil)) (pa_cons (pe_lst pa_nil) pa_nil)) (by rfl))
      (pss_cons (ps_for PassesOwn.never rfl (pi_list (pe_call G_turned (hr.mono (by decide)) (by rfl) d.D_turned.g d.D_turned.F.kp d.D_turned.b .nil pass0 (pa_cons (pv 0) (pa_cons (pe_lc (own := [("_law_one", 6)]) (g := gName 6) (tt := tTest (tOp rNe (tVar 6) (tVar 2))) (te := tVar 6) rfl sc_law_grown_links.nd (pi_range1 (by rfl) B.rng (pa_cons (pv 1) pa_nil))
        (blkOk_by (N := ["_law_hand_here", "_law_many", "_law_root", "_law_heard_here", "_law_found", "_law_place", "_law_one"]) (sc := defScope s_law_grown_links) (by decide +kernel)) (fun _ _ _ _ _ => pg_name (i := 6) sc_law_grown_links.nd rfl (Or.inl rfl)) (fun _ _ _ _ _ => (pts_one (pt_cmpR op_ne (pv 6) (pv 2) (nomark _))))
        (fun _ _ _ _ _ => (pv 6))) pa_nil)))) (pg_name (i := 5) sc_law_grown_links.nd rfl (Or.inl rfl))
      (pss_cons (ps_expr (pe_bm PySem.F.plainAttrs_list PySem.F.slot_list_append PySem.F.type_list_append mt_append (pv 4) (pa_cons (pe_tup (pa_cons (pe_call G_any (hr.mono (by decide)) (by rfl) d.D_any.g d.D_any.F.kp d.D_any.b .nil pass0 (pa_cons (pv 0) (pa_cons (pv 3) pa_nil))) (pa_cons (pv 5) pa_nil))) pa_nil)))
      (pss_one (ps_expr (pe_bm PySem.F.plainAttrs_list PySem.F.slot_list_append PySem.F.type_list_append mt_append (pv 3) (pa_cons (pv 5) pa_nil))))))
      (pss_one (ps_ret (pv 4)))))), ?_⟩
    refine ⟨_, rfl, (by show 1 ≤ sizeLine; decide), fun l1 n1 => ⟨(by show 0 ≤ sizeLine; decide), fun l2 n2 => ⟨_, _, rfl, ?_⟩⟩⟩
    have n12 : l1 ≠ l2 := ne_of_none upd_same n2
    have n2H : H l2 = none := by
      rw [upd_ne (Ne.symm n12)] at n2
      exact n2
    have s0 : Same H (upd (upd H l1 (.lst [.int r])) l2 (.lst [])) := samePast (sameNew n1) n2
    refine ⟨_, rfl, _, rfl, m, rfl, by omega, by omega, fun C nC => lc_range (lo := 0) (n := m.toNat) (fun i H3 => Same (upd (upd H l1 (.lst [.int r])) l2 (.lst [])) H3 ∧ ∃ acc : List Int, H3 C = some (.lst (acc.map V.int)) ∧ acc.length ≤ i ∧ (∀ z ∈ acc, 0 ≤ z ∧ z < i ∧ z ≠ r) ∧ acc.Nodup)
      ⟨sameNew nC, [], upd_same, Nat.le_refl _, fun z hz => (nomatch hz), List.nodup_nil⟩ (fun i H3 hi h3 => ?_) (fun H3 h3 => ?_)⟩
    · obtain ⟨s3, acc, hC, hl, hz, hnd⟩ := h3
      refine ⟨rfl, _, rfl, _, rfl, rfl, _, rfl, ?_⟩
      refine ite2 (fun hne => ⟨_, rfl, _, hC, ?_, samePut s3 nC, acc ++ [0 + (i : Int)], by rw [upd_same, List.map_append]; rfl, ?_, ?_, ?_⟩) (fun hne => ⟨s3, acc, hC, by omega, fun z hz2 => ?_, hnd⟩)
      · rw [List.length_map]
        exact Nat.lt_of_le_of_lt (show acc.length ≤ 10 by omega) (by decide)
      · rw [List.length_append]
        show acc.length + 1 ≤ i + 1
        omega
      · intro z hz2
        rcases List.mem_append.mp hz2 with hz2 | hz2
        · obtain ⟨y1, y2, y3⟩ := hz z hz2
          exact ⟨y1, by omega, y3⟩
        · have ez : z = 0 + (i : Int) := List.mem_singleton.mp hz2
          refine ⟨by omega, by omega, fun er => ?_⟩
          rw [← ez, er] at hne
          simp at hne
      · refine List.nodup_append.mpr ⟨hnd, by simp, fun y hy z hz2 => ?_⟩
        have ez : z = 0 + (i : Int) := List.mem_singleton.mp hz2
        have := (hz y hy).2.1
        omega
      · obtain ⟨y1, y2, y3⟩ := hz z hz2
        exact ⟨y1, by omega, y3⟩
    · obtain ⟨s3, acc, hC, hl, hz, hnd⟩ := h3
      have s03 := s0.trans s3
      refine ⟨a, C, _, rfl, hH.keep s03, hC, ?_, fun p ys H4 np s4 hp perm => ?_⟩
      · rw [List.length_map]
        omega
      obtain ⟨zs, rfl, pz⟩ := permInts perm
      have zin : ∀ z ∈ zs, 0 ≤ z ∧ z < m ∧ z ≠ r := fun z hz2 => by
        obtain ⟨y1, y2, y3⟩ := hz z (pz.mem_iff.mp hz2)
        exact ⟨y1, by omega, y3⟩
      have znd : zs.Nodup := pz.nodup_iff.mpr hnd
      have zlen : zs.length ≤ 10 := by
        rw [pz.length_eq]
        omega
      have s14 := s3.trans s4
      have h1 : H4 l1 = some (.lst [.int r]) := s14 _ _ (by rw [upd_ne n12, upd_same])
      have h2 : H4 l2 = some (.lst []) := s14 _ _ upd_same
      have np1 : p ≠ l1 := fun z => by rw [z, s3 _ _ (by rw [upd_ne n12, upd_same])] at np; cases np
      have np2 : p ≠ l2 := fun z => by rw [z, s3 _ _ upd_same] at np; cases np
      refine ⟨p, rfl, ⟨_, SqL.of hp⟩, for_list (K := K) (a := p) (xs := zs.map V.int) (fun i σ2 H5 => ∃ (v5 v6 : Option V) (ws : List V), σ2 = [some (.ref a), some (.int m), some (.int r), some (.ref l1), some (.ref l2), v5, v6] ∧ Same H H5 ∧ H5 p = some (.lst (zs.map V.int)) ∧
        H5 l1 = some (.lst ((r :: zs.take i).map V.int)) ∧ H5 l2 = some (.lst ws) ∧ ws.length = i ∧ ∀ w ∈ ws, Lk m H5 w) ⟨_, _, [], rfl, s0.trans s14, hp, h1, h2, rfl, fun w hw => (nomatch hw)⟩ (fun i σ2 H5 _ h5 => ?_) ?_ ?_⟩
      · obtain ⟨_, _, _, _, _, h5, _⟩ := h5
        exact SqL.of h5
      · rintro i x σ2 H5 hx ⟨v5, v6, ws, rfl, s5, hp5, h15, h25, hwl, hlk⟩
        rw [List.getElem?_map] at hx
        obtain ⟨z, hz5, rfl⟩ := Option.map_eq_some_iff.mp hx
        have hi : i < zs.length := (List.getElem?_eq_some_iff.mp hz5).1
        have zm : z ∈ zs := List.mem_of_getElem? hz5
        refine ⟨_, rfl, Or.inl ⟨rfl, _, SqL.of h25⟩, _, rfl, _, rfl, a, l1, _, rfl, hH.keep s5, SqL.of h15, (by rw [List.length_map, List.length_cons]; omega), ?_, fun rr x hx => ?_⟩
        · rw [List.length_map, List.length_cons, List.length_take]
          omega
        rw [List.getElem?_map] at hx
        obtain ⟨y, hy, rfl⟩ := Option.map_eq_some_iff.mp hx
        have ym : 0 ≤ y ∧ y < m ∧ y ≠ z := by
          rcases List.mem_cons.mp (List.mem_of_getElem? hy) with e | hy2
          · rw [e]
            exact ⟨r0, r1, Ne.symm (zin z zm).2.2⟩
          · obtain ⟨y1, y2, _⟩ := zin y (List.mem_of_mem_take hy2)
            exact ⟨y1, y2, fun e => notTake znd hz5 (e ▸ hy2)⟩
        refine ⟨_, rfl, (by show 2 ≤ sizeLine; decide), fun q nq => ?_⟩
        have sq := sameNew (o := HO.tup [.int y, .int z]) nq
        have h25q := sq _ _ h25
        have h15q := sq _ _ h15
        refine ⟨l2, ws, .ref q, rfl, rfl, h25q, Nat.lt_of_le_of_lt (show ws.length ≤ 10 by omega) (by decide), ?_⟩
        have h15p : upd (upd H5 q (.tup [.int y, .int z])) l2 (.lst (ws ++ [.ref q])) l1 = some (.lst ((r :: zs.take i).map V.int)) := by
          rw [upd_ne n12]
          exact h15q
        have n1H : H l1 = none := n1
        refine ⟨_, rfl, Or.inl ⟨rfl, _, SqL.of h15p⟩, _, rfl, l1, _, .int z, rfl, rfl, h15p, ?_, ?_⟩
        · rw [List.length_map, List.length_cons, List.length_take]
          exact Nat.lt_of_le_of_lt (show min i zs.length + 1 ≤ 20 by omega) (by decide)
        have qlk : Lk m (upd H5 q (.tup [.int y, .int z])) (.ref q) := ⟨q, y, z, rfl, upd_same, ym.1, ym.2.1, (zin z zm).1, (zin z zm).2.1, ym.2.2⟩
        refine ⟨_, _, ws ++ [.ref q], rfl, samePut (samePut (s5.trans sq) n2H) n1H, ?_, ?_, ?_, ?_, ?_⟩
        · have e1 : p ≠ l1 := np1
          have e2 : p ≠ l2 := np2
          rw [upd_ne e1, upd_ne e2]
          exact sq _ _ hp5
        · rw [upd_same, takeSucc zs hz5, ← List.cons_append, List.map_append]
          rfl
        · rw [upd_ne (Ne.symm n12), upd_same]
        · rw [List.length_append, hwl]
          rfl
        · intro w hw
          rcases List.mem_append.mp hw with hw | hw
          · exact (((hlk w hw).keep sq).put h25q).put h15p
          · rw [List.mem_singleton.mp hw]
            exact (qlk.put h25q).put h15p
      · rintro σ2 H5 ⟨v5, v6, ws, rfl, s5, hp5, h15, h25, hwl, hlk⟩
        refine ⟨_, rfl, k l2 ws H5 n2H s5 h25 hlk ?_⟩
        rw [hwl, List.length_map]
        exact zlen
theorem ok_drawn (d : Dn K mg) (B : Bn mg) : FnOk P w K mg base CX0 4 d.f_drawn d.fd_drawn ["_law_hand_here", "_law_most", "_law_trees", "_law_more"] spDrawn := by
  have G_any := ok_any (P := P) (w := w) (base := base) d B
  have G_draw := ok_draw (P := P) (w := w) (base := base) d B
  have G_turned := ok_turned (P := P) (w := w) (base := base) d B
  have G_link := ok_link (P := P) (w := w) (base := base) d B
  have G_grown_links := ok_grown (P := P) (w := w) (base := base) d B
  refine d.D_drawn.F.ok sc_law_drawn (fun vs H Q E h => ?_) (fun cdv A outer s H vs Q E hr h => ?_)
  · obtain ⟨a, z, t, k, rfl, _⟩ := h
    rfl
  · obtain ⟨a, z, t, kk, rfl, hH, z0, z1, t0, t1, k0, k1, k⟩ := h
    refine ⟨_, PSs.nox ((pss_cons (ps_set (i := 4) sc_law_drawn.nd rfl (Or.inl rfl) (pe_op op_add pe_int (pe_call G_draw (hr.mono (by decide)) (by rfl) d.D_draw.g d.D_draw.F.kp d.D_draw.b .nil pass0 (pa_cons (pv 0) (pa_cons (pe_op op_sub (pv 1) pe_int) pa_nil)))))
      (pss_cons (ps_par (i := 5) (j := 6) rfl sc_law_drawn.nd rfl rfl (by decide) rfl rfl (pa_cons (pe_call G_draw (hr.mono (by decide)) (by rfl) d.D_draw.g d.D_draw.F.kp d.D_draw.b .nil pass0 (pa_cons (pv 0) (pa_cons (pv 4) pa_nil))) (pa_cons (pe_lst pa_nil) pa_nil)) (by rfl))
      (pss_cons (ps_for PassesOwn.never rfl (pi_range1 (by rfl) B.rng (pa_cons (pe_call G_draw (hr.mono (by decide)) (by rfl) d.D_draw.g d.D_draw.F.kp d.D_draw.b .nil pass0 (pa_cons (pv 0) (pa_cons (pe_op op_add (pv 2) pe_int) pa_nil))) pa_nil)) (pg_name (i := 7) sc_law_drawn.nd rfl (Or.inl rfl))
      (pss_one (ps_expr (pe_bm PySem.F.plainAttrs_list PySem.F.slot_list_extend PySem.F.type_list_extend mt_extend (pv 6) (pa_cons (pe_call G_grown_links (hr.mono (by decide)) (by rfl) d.D_grown_links.g d.D_grown_links.F.kp d.D_grown_links.b .nil pass0 (pa_cons (pv 0) (pa_cons (pv 4) (pa_cons (pv 5) pa_nil)))) pa_nil)))))
      (pss_cons (ps_for PassesOwn.never rfl (pi_range1 (by rfl) B.rng (pa_cons (pe_call G_draw (hr.mono (by decide)) (by rfl) d.D_draw.g d.D_draw.F.kp d.D_draw.b .nil pass0 (pa_cons (pv 0) (pa_cons (pe_op op_add (pv 3) pe_int) pa_nil))) pa_nil)) (pg_name (i := 7) sc_law_drawn.nd rfl (Or.inl rfl))
      (pss_one (ps_expr (pe_bm PySem.F.plainAttrs_list PySem.F.slot_list_append PySem.F.type_list_append mt_append (pv 6) (pa_cons (pe_ifExp (PW.pt (pw_and (pt_cmpR op_gt (pe_callB call_len_seq (by rfl) B.len PySem.boot_len (pa_cons (pv 6) pa_nil)) pe_int (nomark _)) (pw_and1 (pt_cmpR op_eq (pe_call G_draw (hr.mono (by decide)) (by rfl) d.D_draw.g d.D_draw.F.kp d.D_draw.b .nil pass0 (pa_cons (pv 0) (pa_cons pe_int pa_nil))) pe_int (nomark _))))) (pe_call G_any (hr.mono (by decide)) (by rfl) d.D_any.g d.D_any.F.kp d.D_any.b .nil pass0 (pa_cons (pv 0) (pa_cons (pv 6) pa_nil))) (pe_call G_link (hr.mono (by decide)) (by rfl) d.D_link.g d.D_link.F.kp d.D_link.b .nil pass0 (pa_cons (pv 0) (pa_cons (pv 4) pa_nil)))) pa_nil)))))
      (pss_one (ps_ret (pe_tup (pa_cons (pv 4) (pa_cons (pv 5) (pa_cons (pe_callTy call_tuple_of (by rfl) B.tup boot_tuple (pa_cons (pe_slice sl_list (pe_call G_turned (hr.mono (by decide)) (by rfl) d.D_turned.g d.D_turned.F.kp d.D_turned.b .nil pass0 (pa_cons (pv 0) (pa_cons (pv 6) pa_nil))) po_none (po_some pe_int)) pa_nil)) pa_nil))))))))))), ?_⟩
    refine ⟨_, rfl, _, rfl, z, 1, rfl, rfl, a, z - 1, rfl, by omega, by omega, hH, fun i hi => ⟨2, _, rfl, rfl, ?_⟩⟩
    refine ⟨_, rfl, _, rfl, a, 2 + (i : Int), rfl, by omega, by omega, hH, fun r hr => ⟨(by show 0 ≤ sizeLine; decide), fun L nL => ⟨_, _, rfl, ?_⟩⟩⟩
    have sL := sameNew (o := HO.lst []) nL
    have m0 : 2 ≤ 2 + (i : Int) := by omega
    have m1 : 2 + (i : Int) ≤ 10 := by omega
    refine ⟨_, rfl, _, rfl, t, 1, rfl, rfl, a, t + 1, rfl, by omega, by omega, hH.keep sL, fun n hn => ⟨(n : Int), rfl, by omega, by omega, for_range (lo := 0) (n := (n : Int).toNat) (fun j σ2 H2 => ∃ (v7 : Option V) (ws : List V), σ2 = [some (.ref a), some (.int z), some (.int t), some (.int kk), some (.int (2 + (i : Int))), some (.int (r : Int)), some (.ref L), v7] ∧ Same H H2 ∧
      H2 L = some (.lst ws) ∧ ws.length ≤ 10 * j ∧ ∀ w ∈ ws, Lk (2 + (i : Int)) H2 w) ⟨_, [], rfl, sL, upd_same, Nat.zero_le _, fun w hw => (nomatch hw)⟩ ?_ ?_⟩⟩
    · rintro j σ2 H2 hj ⟨v7, ws, rfl, s2, h2, hl2, hlk⟩
      refine ⟨_, rfl, Or.inl ⟨rfl, _, SqL.of h2⟩, _, rfl, _, rfl, _, rfl, a, 2 + (i : Int), (r : Int), rfl, hH.keep s2, m0, m1, by omega, hr, fun p ws2 H3 np s3 hp hlk2 hl3 => ?_⟩
      have h3 := s3 _ _ h2
      refine ⟨L, p, ws, ws2, rfl, rfl, h3, hp, Nat.le_trans (show ws.length + ws2.length ≤ 1000 by omega) (by decide), ?_⟩
      refine ⟨_, ws ++ ws2, rfl, samePut (s2.trans s3) nL, upd_same, by rw [List.length_append]; omega, fun w hw => ?_⟩
      rcases List.mem_append.mp hw with hw | hw
      · exact ((hlk w hw).keep s3).put h3
      · exact (hlk2 w hw).put h3
    · rintro σ2 H2 ⟨v7, ws0, rfl, s2, h2, hl2, hlk0⟩
      refine ⟨_, rfl, _, rfl, kk, 1, rfl, rfl, a, kk + 1, rfl, by omega, by omega, hH.keep s2, fun n2 hn2 => ⟨(n2 : Int), rfl, by omega, by omega, for_range (lo := 0) (n := (n2 : Int).toNat) (fun j σ2 H2 => ∃ (v7 : Option V) (ws : List V), σ2 = [some (.ref a), some (.int z), some (.int t), some (.int kk), some (.int (2 + (i : Int))), some (.int (r : Int)), some (.ref L), v7] ∧ Same H H2 ∧
        H2 L = some (.lst ws) ∧ ws.length ≤ 200 + j ∧ ∀ w ∈ ws, Lk (2 + (i : Int)) H2 w) ⟨_, ws0, rfl, s2, h2, by omega, hlk0⟩ ?_ ?_⟩⟩
      · rintro j σ2 H2 hj ⟨v7, ws, rfl, s2, h2, hl2, hlk⟩
        have fin : ∀ (x : V) (H3 : Hp), Same H2 H3 → Lk (2 + (i : Int)) H3 x → rAppend (.ref L) [x] H3 fun _ H4 => ∃ (v8 : Option V) (ws2 : List V), [some (.ref a), some (.int z), some (.int t), some (.int kk), some (.int (2 + (i : Int))), some (.int (r : Int)), some (.ref L), some (.int (0 + (j : Int)))] = [some (.ref a), some (.int z), some (.int t), some (.int kk), some (.int (2 + (i : Int))), some (.int (r : Int)), some (.ref L), v8] ∧ Same H H4 ∧
            H4 L = some (.lst ws2) ∧ ws2.length ≤ 200 + (j + 1) ∧ ∀ w ∈ ws2, Lk (2 + (i : Int)) H4 w := fun x H3 s3 hx => by
          have h3 := s3 _ _ h2
          refine ⟨L, ws, x, rfl, rfl, h3, Nat.lt_of_le_of_lt (show ws.length ≤ 1000 by omega) (by decide), _, ws ++ [x], rfl, samePut (s2.trans s3) nL, upd_same, ?_, fun w hw => ?_⟩
          · rw [List.length_append]
            show ws.length + 1 ≤ 200 + (j + 1)
            omega
          · rcases List.mem_append.mp hw with hw | hw
            · exact ((hlk w hw).keep s3).put h3
            · rw [List.mem_singleton.mp hw]
              exact hx.put h3
        refine ⟨_, rfl, Or.inl ⟨rfl, _, SqL.of h2⟩, _, rfl, L, ws, rfl, Or.inl (SqL.of h2), _, 0, rfl, rfl, _, rfl, ?_⟩
        refine ite2 (fun hpos => ?_) (fun hpos => iteF ?_)
        · have hpos2 : (0 : Int) < (ws.length : Int) := of_decide_eq_true hpos
          refine ⟨_, rfl, a, 5, rfl, by decide, by decide, hH.keep s2, fun r5 hr5 => ⟨rfl, _, rfl, ?_⟩⟩
          refine ite2 (fun _ => ?_) (fun _ => ?_)
          · refine ⟨_, rfl, _, rfl, a, L, ws, rfl, hH.keep s2, SqL.of h2, by omega, by omega, fun rr x hx => ?_⟩
            exact fin x H2 (Same.refl _) (hlk x (List.mem_of_getElem? hx))
          · exact ⟨_, rfl, _, rfl, a, 2 + (i : Int), rfl, hH.keep s2, m0, m1, fun p H3 np s3 hp => fin (.ref p) H3 s3 hp⟩
        · exact ⟨_, rfl, _, rfl, a, 2 + (i : Int), rfl, hH.keep s2, m0, m1, fun p H3 np s3 hp => fin (.ref p) H3 s3 hp⟩
      · rintro σ2 H2 ⟨v7, ws, rfl, s2, h2, hl2, hlk⟩
        refine ⟨_, rfl, _, rfl, _, rfl, _, rfl, a, L, ws, rfl, hH.keep s2, h2, by omega, fun p ys H3 np s3 hp perm => ?_⟩
        refine ⟨60, rfl, p, ys, rfl, SqL.of hp, fun q nq => ⟨q, _, rfl, Or.inl ⟨SqL.of upd_same, fun l nl => ⟨(by show 3 ≤ sizeLine; decide), fun top ntop => ?_⟩⟩⟩⟩
        have sA := sameNew (o := HO.lst (cutV ys none (some 60))) nq
        have sB := sameNew (o := HO.tup (cutV ys none (some 60))) nl
        have sC := sameNew (o := HO.tup [V.int (2 + (i : Int)), V.int (r : Int), V.ref l]) ntop
        have s4 := s3.trans ((sA.trans sB).trans sC)
        have lk4 : ∀ w ∈ cutV ys none (some 60), Lk (2 + (i : Int)) _ w := fun w hw => (hlk w (perm.mem_iff.mp (mem_cutV hw))).keep s4
        obtain ⟨lss, hall, hlss⟩ := lkAll lk4
        have l60 : lss.length ≤ 60 := by
          have h1 := hall.length
          have h2 := cutLe ys 60
          have h3 : (lss.map lkD).length = lss.length := List.length_map _
          have h4 : (cutV ys none (some (60 : Int))).length ≤ 60 := h2
          omega
        exact k top (2 + (i : Int)) (r : Int) l (cutV ys none (some 60)) lss _ ((s2.trans (s3.trans (sA.trans sB))).free ntop) (s2.trans s4) ⟨upd_same, sC _ _ upd_same, hall, ⟨m0, m1, by omega, hr, l60, hlss⟩⟩ (by omega)
end
end K06
namespace K06
open PySem PySem.Spec PyProof.Rows L2 Kv
/-! ### grown lots and odd things: _law_grow, _law_odd, _law_bent_lot -/
/-- a link's ends -/
def stL (ls : List (Int × Int)) (z : Int) : Int := (ls.getD z.toNat (0, 0)).1
def enL (ls : List (Int × Int)) (z : Int) : Int := (ls.getD z.toNat (0, 0)).2
theorem linkOf {H : Hp} {ws : List V} {ls : List (Int × Int)} (hs : ThAll H ws (ls.map lkD)) {z : Int} (z0 : 0 ≤ z) (z1 : z < ls.length) :
    ∃ e, atI ws z = some (.ref e) ∧ H e = some (.tup [.int (stL ls z), .int (enL ls z)]) := by
  have len := hs.length
  rw [List.length_map] at len
  have hk : z.toNat < ws.length := by omega
  have hk2 : z.toNat < ls.length := by omega
  have ez : z = (z.toNat : Int) := by omega
  obtain ⟨d, hd, ht⟩ := hs.get (List.getElem?_eq_getElem hk)
  rw [List.getElem?_map, List.getElem?_eq_getElem hk2] at hd
  have e1 : ls.getD z.toNat (0, 0) = ls[z.toNat] := by rw [List.getD_eq_getElem?_getD, List.getElem?_eq_getElem hk2]; rfl
  have ed : d = lkD (ls.getD z.toNat (0, 0)) := by rw [e1]; exact (Option.some.inj hd).symm
  have hat : atI ws z = some ws[z.toNat] := by
    have h2 := atI_nat (xs := ws) (j := z.toNat) (List.getElem?_eq_getElem hk)
    rw [← ez] at h2
    exact h2
  rw [hat]
  rw [ed] at ht
  generalize ws[z.toNat] = v at ht
  cases ht with
  | tup ha h hl =>
    cases h with
    | cons h1 h2 =>
      cases h2 with
      | cons h2 h3 =>
        cases h3
        cases h1
        cases h2
        exact ⟨_, rfl, ha⟩
theorem endsOf {m r : Int} {ls : List (Int × Int)} (h : NetR m r ls) {z : Int} (z0 : 0 ≤ z) (z1 : z < ls.length) : 0 ≤ stL ls z ∧ stL ls z < m ∧ 0 ≤ enL ls z ∧ enL ls z < m ∧ stL ls z ≠ enL ls z := by
  have hk : z.toNat < ls.length := by omega
  have e : ls.getD z.toNat (0, 0) = ls[z.toNat] := by rw [List.getD_eq_getElem?_getD, List.getElem?_eq_getElem hk]; rfl
  unfold stL enL
  rw [e]
  exact h.lk _ (List.getElem_mem hk)
/-- links that grow from places, each from a heard place to one that is not -/
inductive Grew (ls : List (Int × Int)) (ss : List Int) : List Int → List Int → Prop
  | nil : Grew ls ss [] ss
  | snoc {f h : List Int} {z : Int} (g : Grew ls ss f h) (hs : stL ls z ∈ h) (hn : enL ls z ∉ h) : Grew ls ss (f ++ [z]) (h ++ [enL ls z])
theorem Grew.ends {ls : List (Int × Int)} {ss f h : List Int} (g : Grew ls ss f h) : ∀ z ∈ f, enL ls z ∈ h := by
  induction g with
  | nil => exact fun z hz => nomatch hz
  | snoc g hs hn ih =>
    intro z hz
    rcases List.mem_append.mp hz with hz | hz
    · exact List.mem_append_left _ (ih z hz)
    · rw [List.mem_singleton.mp hz]
      exact List.mem_append_right _ List.mem_cons_self
theorem Grew.nodup {ls : List (Int × Int)} {ss f h : List Int} (g : Grew ls ss f h) : f.Nodup := by
  induction g with
  | nil => exact List.nodup_nil
  | snoc g hs hn ih =>
    refine List.nodup_append.mpr ⟨ih, by simp, fun a ha b hb => ?_⟩
    rw [List.mem_singleton.mp hb]
    intro e
    rw [e] at ha
    exact hn (g.ends _ ha)
theorem Grew.len {ls : List (Int × Int)} {ss f h : List Int} (g : Grew ls ss f h) : h.length = ss.length + f.length := by
  induction g with
  | nil => rfl
  | snoc g hs hn ih =>
    rw [List.length_append, List.length_append, ih]
    rfl
theorem sortedLt {zs f : List Int} (hp : zs.Perm f) (hs : zs.Pairwise (· ≤ ·)) (nd : f.Nodup) : zs.Pairwise (· < ·) := by
  have nd2 : zs.Nodup := hp.nodup_iff.mpr nd
  exact (List.Pairwise.and hs nd2).imp fun h => by
    obtain ⟨h1, h2⟩ := h
    omega
def spGrow (K : PySem.W.Frag) : Sp := fun vs H Q _ => ∃ (a p s fr l : Addr) (k m r : Int) (ws : List V) (ls : List (Int × Int)) (ss fs : List Int), vs = [.ref a, .ref p, .ref s, .ref fr, .int k] ∧ Hand H a ∧ NetAt H p m r l ws ls ∧ (SqL K H s (ss.map V.int) ∨ SqT K H s (ss.map V.int)) ∧ ss.length ≤ 100 ∧
  SqL K H fr (fs.map V.int) ∧ fs.length ≤ 100 ∧ (∀ z ∈ fs, 0 ≤ z ∧ z < ls.length) ∧ 0 ≤ k ∧ k ≤ 60 ∧ ∀ t (zs f h : List Int) H2, H t = none → Same H H2 → H2 t = some (.tup (zs.map V.int)) → zs.Pairwise (· < ·) → (∀ z ∈ zs, z ∈ fs) → zs.length ≤ k → Grew ls ss f h → zs.Perm f → Q (.ref t) H2
/-- name = e, and on -/
theorem asgE {te : TE} {i : Nat} {u : TS} {D : Ends} {σ : L2.St} {H : Hp} (h : te σ H fun v H1 => u D (σ.set i (some v)) H1) : tSeq (tAsg te (gName i)) u D σ H := h
/-- a thing that may be shown -/
def Tg (H : Hp) (v : V) (d : PyData) : Prop := Th H v d ∧ okT d = true
section
variable {P : Program} {w : World} {K : PySem.W.Frag} {mg : Str → Option Value} {base : Heap}
theorem cutInts (zs : List Int) (lo hi : Option Int) : ∃ ys : List Int, cutV (zs.map V.int) lo hi = ys.map V.int ∧ ys.length ≤ zs.length ∧ ∀ y ∈ ys, y ∈ zs := by
  refine ⟨(zs.drop (HT.sIx zs.length 0 lo)).take (HT.sIx zs.length zs.length hi - HT.sIx zs.length 0 lo), ?_, ?_, fun y hy => List.mem_of_mem_drop (List.mem_of_mem_take hy)⟩
  · unfold cutV
    rw [List.length_map, List.map_take, List.map_drop]
  · rw [List.length_take, List.length_drop]
    omega
theorem thInts {H : Hp} : ∀ zs : List Int, ThAll H (zs.map V.int) (zs.map PyData.int)
  | [] => .nil
  | z :: zs => .cons (.int z) (thInts zs)
theorem neatInts : ∀ {zs : List Int}, (∀ z ∈ zs, 0 ≤ z ∧ z ≤ 100) → NeatAll 0 (21 * zs.length) (zs.map PyData.int)
  | [], _ => NeatAll.nil
  | z :: zs, h => by
    have a := NeatAll.cons (neatInt (h z List.mem_cons_self).1 (h z List.mem_cons_self).2) (neatInts fun y hy => h y (List.mem_cons_of_mem _ hy))
    have e : 20 + 1 + 21 * zs.length = 21 * (z :: zs).length := by rw [List.length_cons]; omega
    rw [e] at a
    exact a
theorem tgTup {H : Hp} {t : Addr} {zs : List Int} (ht : H t = some (.tup (zs.map V.int))) (hl : zs.length ≤ 100) (h : ∀ z ∈ zs, 0 ≤ z ∧ z ≤ 100) : Tg H (.ref t) (.tuple (zs.map PyData.int)) := by
  refine ⟨.tup ht (thInts zs) (by rw [List.length_map]; exact hl), ?_⟩
  unfold okT
  rw [neat_okD (neatInts h).tup (by decide) (by omega)]
  rfl
theorem tgLst {H : Hp} {t : Addr} {zs : List Int} (ht : H t = some (.lst (zs.map V.int))) (hl : zs.length ≤ 100) (h : ∀ z ∈ zs, 0 ≤ z ∧ z ≤ 100) : Tg H (.ref t) (.list (zs.map PyData.int)) := by
  refine ⟨.lst ht (thInts zs), ?_⟩
  have n := neatInts h
  have e : Neat 1 (21 * zs.length) (.list (zs.map PyData.int)) := ⟨by simp only [PyData.hasDict, n.nd], by simp only [PyData.showable, n.sh], by simp only [PyData.canLay0, n.cl], by have := n.dp; simp only [PyData.depth]; omega, by have := n.wt; simp only [PyData.weight]; omega, by simp only [PyData.leavesShort, n.lv]⟩
  unfold okT
  rw [neat_okD e (by decide) (by omega)]
  rfl
/-- new ints ahead, one thing, new ints behind -/
theorem tgMid {H : Hp} {t : Addr} {xs ys : List Int} {v : V} {d : PyData} (ht : H t = some (.tup (xs.map V.int ++ [v] ++ ys.map V.int))) (hv : Th H v d) (hd : Neat 5 200 d) (hl : xs.length + ys.length ≤ 80) (h1 : ∀ z ∈ xs, 0 ≤ z ∧ z ≤ 100) (h2 : ∀ z ∈ ys, 0 ≤ z ∧ z ≤ 100) :
    Tg H (.ref t) (.tuple (xs.map PyData.int ++ [d] ++ ys.map PyData.int)) := by
  have app : ∀ {xs : List Int} {ds : List PyData} {w : Nat}, (∀ z ∈ xs, 0 ≤ z ∧ z ≤ 100) → NeatAll 5 w ds → NeatAll 5 (21 * xs.length + w) (xs.map PyData.int ++ ds) := by
    intro xs ds w
    induction xs with
    | nil =>
      intro _ hd
      have e : 21 * ([] : List Int).length + w = w := by simp
      rw [e]
      exact hd
    | cons z xs ih =>
      intro h hd
      have a := NeatAll.cons ((neatInt (h z List.mem_cons_self).1 (h z List.mem_cons_self).2).mono (Nat.zero_le 5) (Nat.le_refl _)) (ih (fun y hy => h y (List.mem_cons_of_mem _ hy)) hd)
      have e : 20 + 1 + (21 * xs.length + w) = 21 * (z :: xs).length + w := by rw [List.length_cons]; omega
      rw [e] at a
      exact a
  have n0 : NeatAll 5 (21 * ys.length + 0) (ys.map PyData.int ++ []) := app h2 NeatAll.nil
  rw [List.append_nil] at n0
  have n1 := app h1 (NeatAll.cons hd n0)
  refine ⟨.tup ht (((thInts xs).append (.cons hv .nil)).append (thInts ys)) ?_, ?_⟩
  · rw [List.length_append, List.length_append, List.length_map, List.length_map]
    show xs.length + 1 + ys.length ≤ 100
    omega
  · have e : xs.map PyData.int ++ [d] ++ ys.map PyData.int = xs.map PyData.int ++ (d :: ys.map PyData.int) := by rw [List.append_assoc]; rfl
    unfold okT
    rw [e, neat_okD n1.tup (by decide) (by omega)]
    rfl
end
end K06
namespace K06
open PySem PySem.Spec PyProof.Rows L2 Kv
/-! ### _law_is_int -/
def spIsInt : Sp := fun vs H Q _ => ∃ (x : V) (d : PyData) (lo hi : Int), vs = [x, .int lo, .int hi] ∧ Th H x d ∧ Q (.bl (isBt d lo hi)) H
section
variable {P : Program} {w : World} {K : PySem.W.Frag} {mg : Str → Option Value} {base : Heap}
theorem ok_is_int (d : Dn K mg) (B : Bn mg) : FnOk P w K mg base CX0 1 d.f_is_int d.fd_is_int ["_law_thing", "_law_least", "_law_most"] spIsInt := by
  refine d.D_is_int.F.ok sc_law_is_int (fun vs H Q E h => ?_) (fun cdv A outer s H vs Q E hr h => ?_)
  · obtain ⟨x, dd, lo, hi, rfl, _⟩ := h
    rfl
  · obtain ⟨x, dd, lo, hi, rfl, hx, k⟩ := h
    refine ⟨_, PSs.nox ((pss_one (ps_ret (pe_and (pe_callB call_isi (by rfl) B.isi boot_isinstance (pa_cons (pv 0) (pa_cons (pe_bltn (v := .ty "int") (by rfl) B.int (by decide +kernel) rfl) pa_nil))) (pe_and (pe_not (pe_callB call_isi (by rfl) B.isi boot_isinstance (pa_cons (pv 0) (pa_cons (pe_bltn (v := .ty "bool") (by rfl) B.bool (by decide +kernel) rfl) pa_nil)))) (pe_one (pe_chain op_le op_le (pv 1) (pv 0) (pv 2)))))))), ?_⟩
    refine ⟨_, rfl, x, _, _, _, _, rfl, .ty _, hx.tyx, kit_int dd, _, rfl, ?_⟩
    cases hx with
    | non => exact iteF k
    | str y => exact iteF k
    | lst h1 h2 => exact iteF k
    | tup h1 h2 => exact iteF k
    | dic h1 => exact iteF k
    | bl b => exact iteT ⟨_, rfl, _, _, _, _, _, rfl, .ty _, (Th.bl b).tyx, kit_bool (.bool b), _, rfl, _, rfl, iteF k⟩
    | int i =>
      refine iteT ⟨_, rfl, _, _, _, _, _, rfl, .ty _, (Th.int i).tyx, kit_bool (.int i), _, rfl, _, rfl, iteT ?_⟩
      refine ⟨_, rfl, _, rfl, lo, i, rfl, rfl, _, rfl, ?_⟩
      have e : isBt (.int i) lo hi = (decide (lo ≤ i) && decide (i ≤ hi)) := rfl
      rw [e] at k
      cases hd : decide (lo ≤ i) with
      | false =>
        rw [hd] at k
        exact iteF k
      | true =>
        rw [hd] at k
        exact iteT ⟨_, rfl, i, hi, rfl, rfl, k⟩
end
end K06
namespace K06
open PySem PySem.Spec PyProof.Rows L2 Kv
/-! ### judges: _law_is_link, _law_wrong, is_integer, is_between, is_unlike_pair -/
def isI : PyData → Bool
  | .int _ => true
  | _ => false
def spIsInteger : Sp := fun vs H Q _ => ∃ (x : V) (d : PyData), vs = [x] ∧ Th H x d ∧ Q (.bl (isI d)) H
def spIsPr : Sp := fun vs H Q _ => ∃ (x : V) (d : PyData) (m : Int), vs = [x, .int m] ∧ Th H x d ∧ Q (.bl (isPr d m)) H
def spIsLink : Sp := fun vs H Q _ => ∃ (x : V) (d : PyData) (m : Int), vs = [.int m, x] ∧ Th H x d ∧ ∀ H2, Same H H2 → Q (.bl (isPr d m)) H2
def spWrong : Sp := fun vs H Q _ => ∃ (x y z : V) (dx dy dz : PyData), vs = [x, y, z] ∧ Th H x dx ∧ Th H y dy ∧ Th H z dz ∧ ∀ H2, Same H H2 → Q (wrongV dx dy dz) H2
section
variable {P : Program} {w : World} {K : PySem.W.Frag} {mg : Str → Option Value} {base : Heap}
theorem ok_is_integer (d : Dn K mg) (B : Bn mg) : FnOk P w K mg base CX0 1 d.f_is_integer d.fd_is_integer ["thing"] spIsInteger := by
  refine d.D_is_integer.F.ok scis_integer (fun vs H Q E h => ?_) (fun cdv A outer s H vs Q E hr h => ?_)
  · obtain ⟨x, dd, rfl, _⟩ := h
    rfl
  · obtain ⟨x, dd, rfl, hx, k⟩ := h
    refine ⟨_, PSs.nox ((pss_one (ps_ret (pe_and (pe_callB call_isi (by rfl) B.isi boot_isinstance (pa_cons (pv 0) (pa_cons (pe_bltn (v := .ty "int") (by rfl) B.int (by decide +kernel) rfl) pa_nil))) (pe_one (pe_not (pe_callB call_isi (by rfl) B.isi boot_isinstance (pa_cons (pv 0) (pa_cons (pe_bltn (v := .ty "bool") (by rfl) B.bool (by decide +kernel) rfl) pa_nil))))))))), ?_⟩
    refine ⟨_, rfl, x, _, _, _, _, rfl, .ty _, hx.tyx, kit_int dd, _, rfl, ?_⟩
    cases hx with
    | non => exact iteF k
    | str y => exact iteF k
    | lst h1 h2 => exact iteF k
    | tup h1 h2 => exact iteF k
    | dic h1 => exact iteF k
    | bl b => exact iteT ⟨_, rfl, _, _, _, _, _, rfl, .ty _, (Th.bl b).tyx, kit_bool (.bool b), _, rfl, k⟩
    | int i => exact iteT ⟨_, rfl, _, _, _, _, _, rfl, .ty _, (Th.int i).tyx, kit_bool (.int i), _, rfl, k⟩
theorem ok_is_between (d : Dn K mg) (B : Bn mg) : FnOk P w K mg base CX0 2 d.f_is_between d.fd_is_between ["thing", "least", "most"] spIsInt := by
  have G_is_integer := ok_is_integer (P := P) (w := w) (base := base) d B
  refine d.D_is_between.F.ok scis_between (fun vs H Q E h => ?_) (fun cdv A outer s H vs Q E hr h => ?_)
  · obtain ⟨x, dd, lo, hi, rfl, _⟩ := h
    rfl
  · obtain ⟨x, dd, lo, hi, rfl, hx, k⟩ := h
    refine ⟨_, PSs.nox ((pss_one (ps_ret (pe_and (pe_call G_is_integer (hr.mono (by decide)) (by rfl) d.D_is_integer.g d.D_is_integer.F.kp d.D_is_integer.b .nil pass0 (pa_cons (pv 0) pa_nil)) (pe_and (pe_cmpR op_le (pv 1) (pv 0) (nomark _)) (pe_one (pe_cmpR op_le (pv 0) (pv 2) (nomark _)))))))), ?_⟩
    refine ⟨_, rfl, x, dd, rfl, hx, _, rfl, ?_⟩
    cases hx with
    | non => exact iteF k
    | str y => exact iteF k
    | lst h1 h2 => exact iteF k
    | tup h1 h2 => exact iteF k
    | dic h1 => exact iteF k
    | bl b => exact iteF k
    | int i =>
      refine iteT ⟨_, rfl, _, rfl, lo, i, rfl, rfl, _, rfl, ?_⟩
      have e : isBt (.int i) lo hi = (decide (lo ≤ i) && decide (i ≤ hi)) := rfl
      rw [e] at k
      cases hd : decide (lo ≤ i) with
      | false =>
        rw [hd] at k
        exact iteF k
      | true =>
        rw [hd] at k
        exact iteT ⟨_, rfl, _, rfl, i, hi, rfl, rfl, k⟩
theorem ok_is_unlike_pair (d : Dn K mg) (B : Bn mg) : FnOk P w K mg base CX0 3 d.f_is_unlike_pair d.fd_is_unlike_pair ["thing", "bound"] spIsPr := by
  have G_is_between := ok_is_between (P := P) (w := w) (base := base) d B
  refine d.D_is_unlike_pair.F.ok scis_unlike_pair (fun vs H Q E h => ?_) (fun cdv A outer s H vs Q E hr h => ?_)
  · obtain ⟨x, dd, m, rfl, _⟩ := h
    rfl
  · obtain ⟨x, dd, m, rfl, hx, k⟩ := h
    refine ⟨_, PSs.nox ((pss_cons (ps_if (PW.pt (pw_or (pt_not (pt_val (pe_callB call_isi (by rfl) B.isi boot_isinstance (pa_cons (pv 0) (pa_cons (pe_bltn (v := .ty "tuple") (by rfl) B.tup (by decide +kernel) rfl) pa_nil))))) (pw_or1 (pt_cmpR op_ne (pe_callB call_len_seq (by rfl) B.len PySem.boot_len (pa_cons (pv 0) pa_nil)) pe_int (nomark _)))))
      (pss_one (ps_ret pe_bl)) pss_nil)
      (pss_cons (ps_asg (pv 0) (pg_tup (by rfl) (pgs_cons (pg_name (i := 2) scis_unlike_pair.nd rfl (Or.inl rfl)) (pgs_cons (pg_name (i := 3) scis_unlike_pair.nd rfl (Or.inl rfl)) pgs_nil))))
      (pss_cons (ps_if (PW.pt (pw_or (pt_not (pt_val (pe_call G_is_between (hr.mono (by decide)) (by rfl) d.D_is_between.g d.D_is_between.F.kp d.D_is_between.b .nil pass0 (pa_cons (pv 2) (pa_cons pe_int (pa_cons (pe_op op_sub (pv 1) pe_int) pa_nil)))))) (pw_or1 (pt_not (pt_val (pe_call G_is_between (hr.mono (by decide)) (by rfl) d.D_is_between.g d.D_is_between.F.kp d.D_is_between.b .nil pass0 (pa_cons (pv 3) (pa_cons pe_int (pa_cons (pe_op op_sub (pv 1) pe_int) pa_nil)))))))))
      (pss_one (ps_ret pe_bl)) pss_nil)
      (pss_one (ps_ret (pe_cmpR op_ne (pv 2) (pv 3) (nomark _)))))))), ?_⟩
    refine ⟨_, rfl, x, _, _, _, _, rfl, .ty _, hx.tyx, kit_tup dd, _, rfl, ?_⟩
    cases hx with
    | non => exact iteT k
    | str y => exact iteT k
    | lst h1 h2 => exact iteT k
    | dic h1 => exact iteT k
    | bl b => exact iteT k
    | int i => exact iteT k
    | @tup a vs ds ha hs hl =>
      refine iteF ⟨_, rfl, a, vs, rfl, Or.inr (SqT.of ha), rfl, _, rfl, ?_⟩
      match vs, ds, hs with
      | [], _, .nil => exact k
      | [_], _, .cons _ .nil => exact k
      | y1 :: y2 :: y3 :: ys, _, .cons _ (.cons _ (.cons _ _)) =>
        refine ite2 (fun _ => k) (fun hne => (hne ?_).elim)
        have e : decide (V.int ((y1 :: y2 :: y3 :: ys).length : Int) = V.int 2) = false := decide_eq_false fun z => by
          have z2 : ((y1 :: y2 :: y3 :: ys).length : Int) = 2 := V.int.inj z
          rw [List.length_cons, List.length_cons, List.length_cons] at z2
          omega
        rw [e]
        rfl
      | [x1, x2], _, .cons (d := d1) h1 (.cons (d := d2) h2 .nil) =>
        have e : isPr (.tuple [d1, d2]) m = (isBt d1 0 (m - 1) && (isBt d2 0 (m - 1) && neI d1 d2)) := rfl
        rw [e] at k
        refine iteF ?_
        refine ⟨_, rfl, a, _, rfl, SqT.of ha, rfl, _, _, rfl, _, _, rfl, rfl, ?_⟩
        refine ⟨_, rfl, _, rfl, m, 1, rfl, rfl, x1, d1, 0, m - 1, rfl, h1, _, rfl, ?_⟩
        cases hb1 : isBt d1 0 (m - 1) with
        | false =>
          rw [hb1] at k
          exact iteT k
        | true =>
        rw [hb1, Bool.true_and] at k
        refine iteF ?_
        refine ⟨_, rfl, _, rfl, m, 1, rfl, rfl, x2, d2, 0, m - 1, rfl, h2, _, rfl, ?_⟩
        cases hb2 : isBt d2 0 (m - 1) with
        | false =>
          rw [hb2] at k
          exact k
        | true =>
        rw [hb2, Bool.true_and] at k
        obtain ⟨i1, rfl, _, _⟩ := isBt_int hb1
        obtain ⟨i2, rfl, _, _⟩ := isBt_int hb2
        cases h1
        cases h2
        refine iteF ⟨_, rfl, _, rfl, rfl, ?_⟩
        have e2 : (!decide (V.int i1 = V.int i2)) = neI (.int i1) (.int i2) := by
          show (!decide (V.int i1 = V.int i2)) = !decide (i1 = i2)
          congr 1
          exact decide_eq_decide.mpr ⟨V.int.inj, congrArg V.int⟩
        rw [e2]
        exact k
end
end K06
namespace K06
open PySem PySem.Spec PyProof.Rows L2 Kv
/-! ### lots, places: need_between, is_lot, need_lot, need_other_place, is_side -/
def lotAll (b : Int) : Int → List PyData → Bool
  | _, [] => true
  | lo, d :: ds => match d with
    | .int i => (decide (lo ≤ i) && decide (i ≤ b - 1)) && lotAll b (i + 1) ds
    | _ => false
/-- a lot of numbers below b -/
def isLotD (d : PyData) (b : Int) : Bool := match d with
  | .tuple ds => lotAll b 0 ds
  | _ => false
def spIsLot : Sp := fun vs H Q _ => ∃ (x : V) (e : PyData) (b : Int), vs = [x, .int b] ∧ Th H x e ∧ Q (.bl (isLotD e b)) H
section
variable {P : Program} {w : World} {K : PySem.W.Frag} {mg : Str → Option Value} {base : Heap}
theorem ok_is_lot (d : Dn K mg) (B : Bn mg) : FnOk P w K mg base CX0 3 d.f_is_lot d.fd_is_lot ["thing", "bound"] spIsLot := by
  have G_is_between := ok_is_between (P := P) (w := w) (base := base) d B
  refine d.D_is_lot.F.ok scis_lot (fun vs H Q E h => ?_) (fun cdv A outer s H vs Q E hr h => ?_)
  · obtain ⟨x, e, b, rfl, _⟩ := h
    rfl
  · obtain ⟨x, e, b, rfl, hx, k⟩ := h
    refine ⟨_, PSs.nox ((pss_cons (ps_if (pt_not (pt_val (pe_callB call_isi (by rfl) B.isi boot_isinstance (pa_cons (pv 0) (pa_cons (pe_bltn (v := .ty "tuple") (by rfl) B.tup (by decide +kernel) rfl) pa_nil)))))
      (pss_one (ps_ret pe_bl)) pss_nil)
      (pss_cons (ps_set (i := 2) scis_lot.nd rfl (Or.inl rfl) pe_int)
      (pss_cons (ps_for PassesOwn.never rfl (pi_tup (pv 0)) (pg_name (i := 3) scis_lot.nd rfl (Or.inl rfl))
      (pss_cons (ps_if (pt_not (pt_val (pe_call G_is_between (hr.mono (by decide)) (by rfl) d.D_is_between.g d.D_is_between.F.kp d.D_is_between.b .nil pass0 (pa_cons (pv 3) (pa_cons (pv 2) (pa_cons (pe_op op_sub (pv 1) pe_int) pa_nil))))))
      (pss_one (ps_ret pe_bl)) pss_nil)
      (pss_one (ps_set (i := 2) scis_lot.nd rfl (Or.inl rfl) (pe_op op_add (pv 3) pe_int)))))
      (pss_one (ps_ret pe_bl)))))), ?_⟩
    refine ⟨_, rfl, x, _, _, _, _, rfl, .ty _, hx.tyx, kit_tup e, _, rfl, ?_⟩
    cases hx
    case non => exact iteT k
    case bl => exact iteT k
    case int => exact iteT k
    case str => exact iteT k
    case lst => exact iteT k
    case dic => exact iteT k
    rename_i a vs ds ha hs hl
    refine iteF ?_
    refine ⟨_, rfl, a, rfl, ⟨_, SqT.of ha⟩, for_tup (K := K) (a := a) (xs := vs) (fun i σ2 H2 => ∃ (lo : Int) (v3 : Option V), σ2 = [some (.ref a), some (.int b), some (.int lo), v3] ∧ H2 = H ∧ lotAll b 0 ds = lotAll b lo (ds.drop i))
      ⟨0, none, rfl, rfl, rfl⟩ (fun i σ2 H2 _ ⟨_, _, _, e, _⟩ => by rw [e]; exact SqT.of ha) ?_ ?_⟩
    · rintro i y σ2 H2 hy ⟨lo, v3, rfl, rfl, he⟩
      obtain ⟨dy, hdy, hty⟩ := hs.get hy
      obtain ⟨hi, e2⟩ := List.getElem?_eq_some_iff.mp hdy
      have e3 : ds.drop i = dy :: ds.drop (i + 1) := by rw [List.drop_eq_getElem_cons hi, e2]
      rw [e3] at he
      refine ⟨_, rfl, _, rfl, _, rfl, b, 1, rfl, rfl, y, dy, lo, b - 1, rfl, hty, _, rfl, ?_⟩
      cases hb : isBt dy lo (b - 1) with
      | false =>
        have ef : isLotD (.tuple ds) b = false := by
          show lotAll b 0 ds = false
          rw [he]
          cases dy with
          | int j =>
            show ((decide (lo ≤ j) && decide (j ≤ b - 1)) && lotAll b (j + 1) (ds.drop (i + 1))) = false
            have hb2 : (decide (lo ≤ j) && decide (j ≤ b - 1)) = false := hb
            rw [hb2]
            rfl
          | _ => rfl
        rw [ef] at k
        exact iteT k
      | true =>
        obtain ⟨j, rfl, j0, j1⟩ := isBt_int hb
        cases hty
        refine iteF ?_
        refine ⟨_, rfl, j, 1, rfl, rfl, j + 1, _, rfl, rfl, ?_⟩
        rw [he]
        show ((decide (lo ≤ j) && decide (j ≤ b - 1)) && lotAll b (j + 1) (ds.drop (i + 1))) = lotAll b (j + 1) (ds.drop (i + 1))
        rw [decide_eq_true j0, decide_eq_true j1]
        rfl
    · rintro σ2 H2 ⟨lo, v3, rfl, rfl, he⟩
      have e : ds.drop vs.length = [] := by rw [hs.length]; exact List.drop_length
      rw [e] at he
      have et : isLotD (.tuple ds) b = true := he
      rw [et] at k
      exact k
end
end K06
namespace K06
open PySem PySem.Spec PyProof.Rows L2 Kv
/-! ### class Net, need_net, every_link -/
/-- a class over ValueError with the one field f -/
structure CI (K : PySem.W.Frag) (x f : Str) (fI : Addr) : Prop where
  ox : OexC K (He.ga K x)
  xf : XfC K (He.ga K x)
  ini : PySem.W.findIn K (.ref (He.ga K x)) "__init__" = some (some (.ref fI))
  fn : PySem.W.typeIn K (.ref fI) = some (.type "function")
  no : PySem.W.findIn K (.ref (He.ga K x)) f = some none
def tyNames : List String := ["NoneType", "bool", "int", "str", "list", "tuple", "dict"]
structure Nk (K : PySem.W.Frag) (mg : Str → Option Value) (d : Dn K mg) : Prop where
  ciB : CI K "BadNet" "part" d.f_BadNet___init__
  gB : mg "BadNet" = some (.ref (He.ga K "BadNet"))
  gT : mg "TreeError" = some (.ref (He.ga K "TreeError"))
  gN : mg "Net" = some (.ref (He.ga K "Net"))
  gNo : mg "NoNet" = some (.ref (He.ga K "NoNet"))
  c2 : ∃ t, mg "FEWEST_PLACES" = some (.int 2 t)
  c10 : ∃ t, mg "MOST_PLACES" = some (.int 10 t)
  c60 : ∃ t, mg "MOST_LINKS" = some (.int 60 t)
  cls : Cls K (He.ga K "Net")
  nm : NoAttr K (He.ga K "Net") "many"
  nr : NoAttr K (He.ga K "Net") "root"
  nl : NoAttr K (He.ga K "Net") "links"
  mkN : Mk K (He.ga K "Net") d.f_Net___init__
  ca : PySem.W.findIn K (.ref (He.ga K "Net")) "__class__" = some (some (.builtin "object.__class__"))
  cn : PySem.W.specialIn K (.builtin "object.__class__") "__get__" = some (some (.builtin "getset_descriptor.__get__"))
  ct : PySem.W.takesIn K (.builtin "object.__class__") = some true
  cm : PySem.W.mroIn K (He.ga K "Net") (.type "object") = some true
  kit : ∀ t ∈ tyNames, PySem.W.kitOne K (.type t) (.ref (He.ga K "Net")) = some false
  xN : PySem.W.excIn K (He.ga K "NoNet") He.veBase "ValueError.__new__" = true
  kN : PySem.W.keepIn K (.ref (He.ga K "NoNet")) = true
  sN : PySem.W.subIn K (.ref (He.ga K "NoNet")) (.type "BaseException") = some true
  tN : PySem.W.typeIn K (.ref (He.ga K "NoNet")) = some (.type "type")
theorem tyNm_mem (d : PyData) : tyNm d ∈ tyNames := by cases d <;> simp [tyNm, tyNames]
def spI (f : Str) (C : Addr) : Sp := fun vs H Q _ => ∃ (a : Addr) (v : V), vs = [.ref a, v] ∧ H a = some (exo a C none) ∧ ∀ d, H d = none → d ≠ a → Q .non (upd (upd H d (exd d [(f, v)])) a (exo a C (some d)))
/-- Net(..)'s fields -/
def netF (x y z : V) : List (Str × V) := putF "links" z (putF "root" y (putF "many" x []))
def spNetI (C CB : Addr) : Sp := fun vs H Q E => ∃ (a dx : Addr) (x y z : V) (ex ey ez : PyData), vs = [.ref a, x, y, z] ∧ H a = some (.ins C dx []) ∧ Th H x ex ∧ Th H y ey ∧ Th H z ez ∧
  (wrongV ex ey ez = .non → ∀ H2, Same H H2 → Q .non (upd H2 a (.ins C dx (netF x y z)))) ∧
  (wrongV ex ey ez ≠ .non → ∀ dd H2 fs, Same H H2 → H2 dd = some (.xd fs) → fs.lookup ("part" : Str) = some (wrongV ex ey ez) → E (.ref CB) (some dd) H2)
/-- need_net(x): x the thing, or a Net -/
def IsNet (C : Addr) (H : Hp) (x : V) : Prop := ∃ a dx fs, x = .ref a ∧ H a = some (.ins C dx fs)
def spNeed (C CN : Addr) : Sp := fun vs H Q E => ∃ x, vs = [x] ∧ ((IsNet C H x ∧ Q .non H) ∨ ((∃ d, Th H x d) ∧ ∀ H2, Same H H2 → E (.ref CN) none H2))
section
variable {P : Program} {w : World} {K : PySem.W.Frag} {mg : Str → Option Value} {base : Heap}
theorem ok_IBadNet (d : Dn K mg) (N : Nk K mg d) : FnOk P w K mg base CX0 1 d.f_BadNet___init__ d.fd_BadNet___init__ ["self", "part"] (spI "part" (He.ga K "BadNet")) := by
  refine d.D_BadNet___init__.ok scBadNet___init__ (fun vs H Q E h => ?_) (fun cdv A outer s H vs Q E hr h => ⟨_, PSs.nox (pss_one (ps_ost (pv 0) (pv 1) rfl)), ?_⟩)
  · obtain ⟨a, v, rfl, _⟩ := h
    rfl
  · obtain ⟨a, v, rfl, ha, k⟩ := h
    exact ⟨_, rfl, _, rfl, a, _, rfl, N.ciB.ox, N.ciB.no, Or.inl ⟨ha, fun d hd hn => k d hd hn⟩⟩
theorem raiseBad {H1 : Hp} {v : V} {C : Addr} {Q : XK} (k : ∀ dd H2 fs, Same H1 H2 → H2 dd = some (.xd fs) → fs.lookup ("part" : Str) = some v → Q (.ref C) (some dd) H2) : ∀ e, H1 e = none → spI "part" C (.ref e :: ([v] ++ [])) (upd H1 e (exo e C none))
    (fun v H2 => v = .non ∧ ∃ (d : Addr) (fs : List (Str × V)), H2 e = some (exo e C (some d)) ∧ H2 d = some (exd d fs) ∧ H1 d = none ∧ Q (.ref C) (some d) (upd (del H2 e) d (.xd fs))) (fun _ _ _ => False) := by
  intro e ne
  refine ⟨e, v, rfl, upd_same, fun d hd hn => ⟨rfl, d, [("part", v)], upd_same, by rw [upd_ne hn, upd_same], ?_, ?_⟩⟩
  · rw [upd_ne hn] at hd
    exact hd
  · rw [upd_ne hn] at hd
    refine k d _ [("part", v)] (fun b u hb => ?_) upd_same rfl
    have b1 : b ≠ e := ne_of_none hb ne
    have b2 : b ≠ d := ne_of_none hb hd
    rw [upd_ne b2, del_ne b1, upd_ne b1, upd_ne b2, upd_ne b1]
    exact hb
theorem ok_INet (d : Dn K mg) (B : Bn mg) (N : Nk K mg d) : FnOk P w K mg base (L2.CX P w) 4 d.f_Net___init__ d.fd_Net___init__ ["self", "many", "root", "links"] (spNetI (He.ga K "Net") (He.ga K "BadNet")) := by
  have G_bad := ok_IBadNet (P := P) (w := w) (base := base) d N
  have G_is_between := ok_is_between (P := P) (w := w) (base := base) d B
  have G_is_unlike_pair := ok_is_unlike_pair (P := P) (w := w) (base := base) d B
  obtain ⟨t2, g2⟩ := N.c2
  obtain ⟨t10, g10⟩ := N.c10
  obtain ⟨t60, g60⟩ := N.c60
  refine d.D_Net___init__.ok (CX := L2.CX P w) scNet___init__ (fun vs H Q E h => ?_) (fun cdv A outer s H vs Q E hr h => ?_)
  · obtain ⟨a, dx, x, y, z, ex, ey, ez, rfl, _⟩ := h
    rfl
  · obtain ⟨a, dx, x, y, z, ex, ey, ez, rfl, ha, hx, hy, hz, k1, k2⟩ := h
    refine ⟨_, (pss_cons (ps_if (pt_not (pt_val (pe_call G_is_between (hr.mono (by decide)) (by rfl) d.D_is_between.g d.D_is_between.F.kp d.D_is_between.b .nil pass0 (pa_cons (pv 1) (pa_cons (pe_glob (v := .int 2) (by rfl) g2 ⟨_, rfl⟩) (pa_cons (pe_glob (v := .int 10) (by rfl) g10 ⟨_, rfl⟩) pa_nil))))))
      (pss_one (ps_raise rfl (takes_of rfl rfl rfl rfl) (pmk_oex N.ciB.ox N.ciB.ini N.ciB.fn G_bad (hr.mono (by decide)) d.b_BadNet___init__ .nil pass0 (by rfl) N.gB (pa_cons pe_str pa_nil)))) pss_nil)
      (pss_cons (ps_if (pt_not (pt_val (pe_call G_is_between (hr.mono (by decide)) (by rfl) d.D_is_between.g d.D_is_between.F.kp d.D_is_between.b .nil pass0 (pa_cons (pv 2) (pa_cons pe_int (pa_cons (pe_op op_sub (pv 1) pe_int) pa_nil))))))
      (pss_one (ps_raise rfl (takes_of rfl rfl rfl rfl) (pmk_oex N.ciB.ox N.ciB.ini N.ciB.fn G_bad (hr.mono (by decide)) d.b_BadNet___init__ .nil pass0 (by rfl) N.gB (pa_cons pe_str pa_nil)))) pss_nil)
      (pss_cons (ps_if (PW.pt (pw_or (pt_not (pt_val (pe_callB call_isi (by rfl) B.isi boot_isinstance (pa_cons (pv 3) (pa_cons (pe_bltn (v := .ty "tuple") (by rfl) B.tup (by decide +kernel) rfl) pa_nil))))) (pw_or1 (pt_cmpR op_gt (pe_callB call_len_seq (by rfl) B.len PySem.boot_len (pa_cons (pv 3) pa_nil)) (pe_glob (v := .int 60) (by rfl) g60 ⟨_, rfl⟩) (nomark _)))))
      (pss_one (ps_raise rfl (takes_of rfl rfl rfl rfl) (pmk_oex N.ciB.ox N.ciB.ini N.ciB.fn G_bad (hr.mono (by decide)) d.b_BadNet___init__ .nil pass0 (by rfl) N.gB (pa_cons pe_str pa_nil)))) pss_nil)
      (pss_cons (ps_for (passes_of rfl) rfl (pi_enumT (by rfl) B.enm (pa_cons (pv 3) pa_nil)) (pg_tup (by rfl) (pgs_cons (pg_name (i := 4) scNet___init__.nd rfl (Or.inl rfl)) (pgs_cons (pg_name (i := 5) scNet___init__.nd rfl (Or.inl rfl)) pgs_nil)))
      (pss_one (ps_if (pt_not (pt_val (pe_call G_is_unlike_pair (hr.mono (by decide)) (by rfl) d.D_is_unlike_pair.g d.D_is_unlike_pair.F.kp d.D_is_unlike_pair.b .nil pass0 (pa_cons (pv 5) (pa_cons (pv 1) pa_nil)))))
      (pss_one (ps_raise rfl (takes_of rfl rfl rfl rfl) (pmk_oex N.ciB.ox N.ciB.ini N.ciB.fn G_bad (hr.mono (by decide)) d.b_BadNet___init__ .nil pass0 (by rfl) N.gB (pa_cons (pv 4) pa_nil)))) pss_nil)))
      (pss_cons (ps_fld (pv 0) (pv 1) (by rfl))
      (pss_cons (ps_fld (pv 0) (pv 2) (by rfl))
      (pss_one (ps_fld (pv 0) (pv 3) (by rfl))))))))), ?_⟩
    have bad : ∀ {H1 : Hp} {v : V}, Same H H1 → wrongV ex ey ez = v → v ≠ .non → ∀ dd H2 fs, Same H1 H2 → H2 dd = some (.xd fs) → fs.lookup ("part" : Str) = some v → E (.ref (He.ga K "BadNet")) (some dd) H2 := fun {H1 v} s1 e n dd H2 fs s2 h2 hl =>
      k2 (by rw [e]; exact n) dd H2 fs (s1.trans s2) h2 (by rw [e]; exact hl)
    refine ⟨_, rfl, x, ex, 2, 10, rfl, hx, _, rfl, ?_⟩
    cases hb : isBt ex 2 10 with
    | false => exact iteT ⟨by show 1 ≤ 1000; decide, raiseBad (bad (Same.refl _) (wv_many hb) (fun z => nomatch z))⟩
    | true =>
    obtain ⟨mi, rfl, m0, m1⟩ := isBt_int hb
    cases hx
    refine iteF ?_
    refine ⟨_, rfl, _, rfl, mi, 1, rfl, rfl, y, ey, 0, mi - 1, rfl, hy, _, rfl, ?_⟩
    cases hb2 : isBt ey 0 (mi - 1) with
    | false => exact iteT ⟨by show 1 ≤ 1000; decide, raiseBad (bad (Same.refl _) (wv_root hb hb2) (fun z => nomatch z))⟩
    | true =>
    refine iteF ?_
    refine ⟨_, rfl, z, _, _, _, _, rfl, .ty _, hz.tyx, kit_tup ez, _, rfl, ?_⟩
    cases hz
    case non => exact iteT ⟨by show 1 ≤ 1000; decide, raiseBad (bad (Same.refl _) (wv_links hb hb2 rfl) (fun z => nomatch z))⟩
    case str => exact iteT ⟨by show 1 ≤ 1000; decide, raiseBad (bad (Same.refl _) (wv_links hb hb2 rfl) (fun z => nomatch z))⟩
    case lst => exact iteT ⟨by show 1 ≤ 1000; decide, raiseBad (bad (Same.refl _) (wv_links hb hb2 rfl) (fun z => nomatch z))⟩
    case dic => exact iteT ⟨by show 1 ≤ 1000; decide, raiseBad (bad (Same.refl _) (wv_links hb hb2 rfl) (fun z => nomatch z))⟩
    case bl => exact iteT ⟨by show 1 ≤ 1000; decide, raiseBad (bad (Same.refl _) (wv_links hb hb2 rfl) (fun z => nomatch z))⟩
    case int => exact iteT ⟨by show 1 ≤ 1000; decide, raiseBad (bad (Same.refl _) (wv_links hb hb2 rfl) (fun z => nomatch z))⟩
    rename_i l vs ds hl0 hs hl
    refine iteF ⟨_, rfl, l, vs, rfl, Or.inr (SqT.of hl0), _, 60, rfl, rfl, _, rfl, ?_⟩
    refine ite2 (fun h60 => ?_) (fun h60 => ?_)
    · have h60b : 60 < ds.length := by
        have := of_decide_eq_true h60
        rw [← hs.length]
        omega
      exact ⟨by show 1 ≤ 1000; decide, raiseBad (bad (Same.refl _) (wv_long hb hb2 h60b) (fun z => nomatch z))⟩
    have n60 : ¬ 60 < ds.length := fun z => h60 (decide_eq_true (by rw [hs.length]; omega))
    refine ⟨_, rfl, l, vs, rfl, SqT.of hl0, for_it (walk_enumT (K := K) (a := l) (xs := vs)) (fun i σ2 H2 => ∃ (v4 v5 : Option V), σ2 = [some (.ref a), some (.int mi), some y, some (.ref l), v4, v5] ∧ Same H H2 ∧ firstBad mi ds 0 = firstBad mi (ds.drop i) i)
      ⟨none, none, rfl, Same.refl _, rfl⟩ (fun i σ2 H2 _ ⟨_, _, _, s2, _⟩ => s2 _ _ hl0) ?_ ?_⟩
    · rintro i v σ2 H2 H3 hi ⟨v4, v5, rfl, s2, hf⟩ ⟨T, i2, lk, rfl, nT, rfl, ei, el⟩
      cases ei
      obtain ⟨dl, hdl, hl2⟩ := hs.get el
      obtain ⟨f1, f2⟩ := firstBad_drop hf hdl
      have sT := s2.trans (sameNew (o := HO.tup [.int (i : Int), lk]) nT)
      refine ⟨T, _, rfl, SqT.of upd_same, rfl, _, _, rfl, _, _, rfl, rfl, ?_⟩
      refine ⟨_, rfl, _, rfl, lk, dl, mi, rfl, hl2.keep sT, _, rfl, ?_⟩
      cases hp : isPr dl mi with
      | false => exact iteT ⟨_, rfl, by show 1 ≤ 1000; decide, raiseBad (bad sT (wv_item hb hb2 n60 (f2 hp)) (fun z => nomatch z))⟩
      | true => exact iteF ⟨_, _, rfl, sT, f1 hp⟩
    · rintro σ2 H2 ⟨v4, v5, rfl, s2, hf⟩
      have e : ds.drop vs.length = [] := by rw [hs.length]; exact List.drop_length
      rw [e] at hf
      refine ⟨_, rfl, _, rfl, a, _, dx, [], rfl, s2 _ _ ha, N.cls, N.nm, by show 0 < 1000; decide, ?_⟩
      refine ⟨_, rfl, _, rfl, a, _, dx, _, rfl, upd_same, N.cls, N.nr, by show 1 < 1000; decide, ?_⟩
      refine ⟨_, rfl, _, rfl, a, _, dx, _, rfl, upd_same, N.cls, N.nl, by show 2 < 1000; decide, ?_⟩
      show Q .non _
      rw [upd_upd, upd_upd]
      exact k1 (wv_none hb hb2 n60 hf) H2 s2
theorem ok_need (d : Dn K mg) (B : Bn mg) (N : Nk K mg d) : FnOk P w K mg base (L2.CX P w) 1 d.f_need_net d.fd_need_net ["thing"] (spNeed (He.ga K "Net") (He.ga K "NoNet")) := by
  refine d.D_need_net.F.ok (CX := L2.CX P w) scneed_net (fun vs H Q E h => ?_) (fun cdv A outer s H vs Q E hr h => ?_)
  · obtain ⟨x, rfl, _⟩ := h
    rfl
  · obtain ⟨x, rfl, h⟩ := h
    refine ⟨_, (pss_one (ps_if (pt_not (pt_val (pe_callB call_isi (by rfl) B.isi boot_isinstance (pa_cons (pv 0) (pa_cons (pe_glob (v := .ref (He.ga K "Net")) (by rfl) N.gN rfl) pa_nil)))))
      (pss_one (ps_raise rfl (takes_of rfl rfl rfl rfl) (pmk_ret rfl (pe_exc0 PySem.F.excBase_ValueError N.xN N.gNo N.kN (by rfl))))) pss_nil)), ?_⟩
    rcases h with ⟨⟨a, dx, fs, rfl, ha⟩, q⟩ | ⟨⟨dd, hx⟩, hE⟩
    · have e : PySem.W.kitOne K (.ref (He.ga K "Net")) (.ref (He.ga K "Net")) = some true := if_pos (beq_self_eq_true _)
      exact ⟨_, rfl, _, _, _, _, _, rfl, .own _, .base (.ins ha N.cls N.ca N.cn N.ct N.cm), e, _, rfl, iteF q⟩
    · refine ⟨_, rfl, x, _, _, _, _, rfl, .own _, hx.tyx, N.kit _ (tyNm_mem dd), _, rfl, iteT ?_⟩
      intro a na
      refine ⟨a, _, rfl, upd_same, fr0_none na, raises_own N.sN N.tN, ?_⟩
      rw [delH_new na]
      exact hE H (Same.refl _)
end
end K06
namespace K06
open PySem PySem.Spec PyProof.Rows L2 Kv
/-! ### heard_from, grows_from, is_grown, heard_places, heard_by -/
/-- at a: a right net of the links ls -/
structure NetO (C : Addr) (H : Hp) (a l : Addr) (m r : Int) (ws : List V) (ls : List (Int × Int)) : Prop where
  ob : ∃ dx, H a = some (.ins C dx (netF (.int m) (.int r) (.ref l)))
  at_ : H l = some (.tup ws)
  all : ThAll H ws (ls.map lkD)
  ok : NetR m r ls
theorem NetO.keep {C : Addr} {H H2 : Hp} {a l : Addr} {m r : Int} {ws : List V} {ls : List (Int × Int)} (s : Same H H2) (h : NetO C H a l m r ws ls) : NetO C H2 a l m r ws ls := by
  obtain ⟨dx, e⟩ := h.ob
  exact ⟨⟨dx, s _ _ e⟩, s _ _ h.at_, h.all.keep s, h.ok⟩
theorem NetO.wl {C : Addr} {H : Hp} {a l : Addr} {m r : Int} {ws : List V} {ls : List (Int × Int)} (h : NetO C H a l m r ws ls) : ws.length = ls.length := by
  have e := h.all.length
  rw [List.length_map] at e
  exact e
def lenAt (H : Hp) (a : Addr) : Nat := match H a with
  | some (.lst xs) => xs.length
  | _ => 0
def spHeard (K : PySem.W.Frag) (C : Addr) : Sp := fun vs H Q _ => ∃ (a l b t : Addr) (m r : Int) (ws : List V) (ls : List (Int × Int)) (bs zs : List Int), vs = [.ref a, .ref b, .ref t] ∧ NetO C H a l m r ws ls ∧ SqT K H b (bs.map V.int) ∧ bs.Nodup ∧ (∀ z ∈ bs, 0 ≤ z ∧ z < m) ∧
  H t = some (.tup (zs.map V.int)) ∧ (∀ z ∈ zs, 0 ≤ z ∧ z < ls.length) ∧ ∀ p hs H2, H p = none → Same H H2 → H2 p = some (.lst (hs.map V.int)) → AllHeard (stL ls) (enL ls) bs zs hs → (∀ h ∈ hs, 0 ≤ h ∧ h < m) → Q (.ref p) H2
section
variable {P : Program} {w : World} {K : PySem.W.Frag} {mg : Str → Option Value} {base : Heap}
theorem ok_heard_from (d : Dn K mg) (B : Bn mg) (N : Nk K mg d) : FnOk P w K mg base CX0 1 d.f_heard_from d.fd_heard_from ["net", "begun", "links"] (spHeard K (He.ga K "Net")) := by
  refine d.D_heard_from.F.ok scheard_from (fun vs H Q E h => ?_) (fun cdv A outer s H vs Q E hr h => ?_)
  · obtain ⟨a, l, b, t, m, r, ws, ls, bs, zs, rfl, _⟩ := h
    rfl
  · obtain ⟨a, l, b, t, m, r, ws, ls, bs, zs, rfl, hn, hb, bnd, brg, ht, hz, k⟩ := h
    refine ⟨_, PSs.nox ((pss_cons (ps_set (i := 3) scheard_from.nd rfl (Or.inl rfl) (pe_callTy call_list_of (by rfl) B.lst boot_list (pa_cons (pv 1) pa_nil)))
      (pss_cons (ps_set (i := 4) scheard_from.nd rfl (Or.inl rfl) (pe_callTy call_list_of (by rfl) B.lst boot_list (pa_cons (pv 1) pa_nil)))
      (pss_cons (ps_while PassesOwn.never (pt_cmpR op_gt (pe_callB call_len_seq (by rfl) B.len PySem.boot_len (pa_cons (pv 4) pa_nil)) pe_int (nomark _))
      (pss_cons (ps_set (i := 5) scheard_from.nd rfl (Or.inl rfl) (pe_bm0 PySem.F.plainAttrs_list PySem.F.slot_list_pop PySem.F.type_list_pop mt_pop (pv 4)))
      (pss_one (ps_for PassesOwn.never rfl (pi_tup (pv 2)) (pg_name (i := 6) scheard_from.nd rfl (Or.inl rfl))
      (pss_cons (ps_asg (pe_ix ix_tup (pe_fld (pv 0) (by rfl)) (pv 6) (fun _ _ => rfl)) (pg_tup (by rfl) (pgs_cons (pg_name (i := 7) scheard_from.nd rfl (Or.inl rfl)) (pgs_cons (pg_name (i := 8) scheard_from.nd rfl (Or.inl rfl)) pgs_nil))))
      (pss_one (ps_if (PW.pt (pw_and (pt_cmpR op_eq (pv 7) (pv 5) (nomark _)) (pw_and1 (pt_cmpR op_notIn_seq (pv 8) (pv 3) (by rfl)))))
      (pss_cons (ps_expr (pe_bm PySem.F.plainAttrs_list PySem.F.slot_list_append PySem.F.type_list_append mt_append (pv 3) (pa_cons (pv 8) pa_nil)))
      (pss_one (ps_expr (pe_bm PySem.F.plainAttrs_list PySem.F.slot_list_append PySem.F.type_list_append mt_append (pv 4) (pa_cons (pv 8) pa_nil))))) pss_nil)))))))
      (pss_one (ps_ret (pv 3))))))), ?_⟩
    have blen : bs.length ≤ 10 := Nat.le_trans (inRange bnd brg) (by have := hn.ok.m1; omega)
    refine ⟨_, rfl, b, _, rfl, Or.inr hb, fun hA nA => ?_⟩
    have s1 := sameNew (o := HO.lst (bs.map V.int)) nA
    refine ⟨_, rfl, b, _, rfl, Or.inr (sameT s1 hb), fun wA nW => ?_⟩
    have s2 := s1.trans (sameNew (o := HO.lst (bs.map V.int)) nW)
    have nhw : hA ≠ wA := ne_of_none upd_same nW
    have nWH : H wA = none := s1.free nW
    refine while_by (fun σ2 H2 => ∃ (v5 v6 v7 v8 : Option V) (hs wl : List Int), σ2 = [some (.ref a), some (.ref b), some (.ref t), some (.ref hA), some (.ref wA), v5, v6, v7, v8] ∧ Same H H2 ∧ H2 hA = some (.lst (hs.map V.int)) ∧ H2 wA = some (.lst (wl.map V.int)) ∧ Walking (stL ls) (enL ls) bs zs m hs wl ∧ 2 * (10 - hs.length) + wl.length ≤ 20)
      (fun _ H2 => 2 * (10 - lenAt H2 hA) + lenAt H2 wA) ⟨_, _, _, _, bs, bs, rfl, s2, by rw [upd_ne nhw, upd_same], upd_same, Walking.start bnd brg, by omega⟩ ?_ ?_
    · rintro σ2 H2 ⟨v5, v6, v7, v8, hs, wl, rfl, s3, hh, hw, wk, wl1⟩
      have hsl : hs.length ≤ 10 := Nat.le_trans (inRange wk.nd wk.rng) (by have := hn.ok.m1; omega)
      refine ⟨_, rfl, wA, _, rfl, Or.inl (SqL.of hw), _, 0, rfl, rfl, _, rfl, ?_⟩
      refine ite2 (fun hpos => ?_) (fun hpos => ?_)
      · have wne : wl ≠ [] := fun e => by
          rw [e] at hpos
          cases hpos
        obtain ⟨wl2, y, ew⟩ : ∃ (wl2 : List Int) (y : Int), wl = wl2 ++ [y] := ⟨_, _, (List.dropLast_concat_getLast wne).symm⟩
        subst ew
        have wl3 : 2 * (10 - hs.length) + (wl2.length + 1) ≤ 20 := by
          rw [List.length_append] at wl1
          exact wl1
        have mu0 : 2 * (10 - lenAt H2 hA) + lenAt H2 wA = 2 * (10 - hs.length) + (wl2.length + 1) := by
          unfold lenAt
          rw [hh, hw]
          show 2 * (10 - (hs.map V.int).length) + ((wl2 ++ [y]).map V.int).length = _
          rw [List.length_map, List.length_map, List.length_append]
          rfl
        rw [mu0]
        have hwy : (wl2 ++ [y]).map V.int = wl2.map V.int ++ [V.int y] := by rw [List.map_append]; rfl
        refine ⟨_, rfl, Or.inl ⟨rfl, _, SqL.of hw⟩, wA, _, .int y, rfl, rfl, hw, ?_, ?_⟩
        · rw [hwy, List.length_append, List.length_map]
          show (wl2.map V.int ++ [V.int y])[wl2.length + 1 - 1]? = _
          rw [Nat.add_sub_cancel, List.getElem?_append_right (by rw [List.length_map]; exact Nat.le_refl _), List.length_map, Nat.sub_self]
          rfl
        have hw2 : upd H2 wA (.lst ((wl2 ++ [y]).map V.int).dropLast) wA = some (.lst (wl2.map V.int)) := by rw [upd_same, hwy, List.dropLast_concat]
        have hh2 : upd H2 wA (.lst ((wl2 ++ [y]).map V.int).dropLast) hA = some (.lst (hs.map V.int)) := by rw [upd_ne nhw]; exact hh
        have s4 : Same H (upd H2 wA (.lst ((wl2 ++ [y]).map V.int).dropLast)) := samePut s3 nWH
        refine ⟨_, rfl, t, rfl, ⟨_, SqT.of (s4 _ _ ht)⟩, for_tup (K := K) (a := t) (xs := zs.map V.int) (fun i σ5 H5 => ∃ (v6 v7 v8 : Option V) (hs3 wl4 : List Int), σ5 = [some (.ref a), some (.ref b), some (.ref t), some (.ref hA), some (.ref wA), some (.int y), v6, v7, v8] ∧ Same H H5 ∧ H5 hA = some (.lst (hs3.map V.int)) ∧ H5 wA = some (.lst (wl4.map V.int)) ∧
            Turning (stL ls) (enL ls) bs zs m y hs3 wl4 (zs.take i) ∧ 2 * (10 - hs3.length) + wl4.length ≤ 2 * (10 - hs.length) + wl2.length) ⟨_, _, _, hs, wl2, rfl, s4, hh2, hw2, wk.take, Nat.le_refl _⟩ (fun i σ5 H5 _ h5 => ?_) ?_ ?_⟩
        · obtain ⟨_, _, _, _, _, _, s5, _⟩ := h5
          exact SqT.of (s5 _ _ ht)
        · rintro i x σ5 H5 hx ⟨v6, v7, v8, hs3, wl4, rfl, s5, hh5, hw5, tn, mu⟩
          rw [List.getElem?_map] at hx
          obtain ⟨z, hz5, rfl⟩ := Option.map_eq_some_iff.mp hx
          have zm := List.mem_of_getElem? hz5
          obtain ⟨z0, z1⟩ := hz z zm
          have hn5 := hn.keep s5
          obtain ⟨dx, ha⟩ := hn5.ob
          obtain ⟨e, he1, he2⟩ := linkOf hn5.all z0 z1
          have hs3l : hs3.length ≤ 10 := Nat.le_trans (inRange tn.nd tn.rng) (by have := hn.ok.m1; omega)
          refine ⟨_, rfl, a, _, dx, _, _, rfl, ha, N.cls, N.nl, rfl, _, rfl, l, ws, z, _, rfl, rfl, SqT.of hn5.at_, he1, e, _, rfl, SqT.of he2, rfl, _, _, rfl, _, _, rfl, rfl, ?_⟩
          have ends := endsOf hn.ok z0 z1
          have skip : (stL ls z = y → enL ls z ∈ hs3) → ∃ (w6 w7 w8 : Option V) (hs3_1 wl4_1 : List Int), [some (V.ref a), some (.ref b), some (.ref t), some (.ref hA), some (.ref wA), some (.int y), some (.int z), some (.int (stL ls z)), some (.int (enL ls z))] = [some (.ref a), some (.ref b), some (.ref t), some (.ref hA), some (.ref wA), some (.int y), w6, w7, w8] ∧ Same H H5 ∧ H5 hA = some (.lst (hs3_1.map V.int)) ∧ H5 wA = some (.lst (wl4_1.map V.int)) ∧
              Turning (stL ls) (enL ls) bs zs m y hs3_1 wl4_1 (zs.take (i + 1)) ∧ 2 * (10 - hs3_1.length) + wl4_1.length ≤ 2 * (10 - hs.length) + wl2.length := fun hno =>
            ⟨_, _, _, hs3, wl4, rfl, s5, hh5, hw5, by rw [takeSucc zs hz5]; exact tn.skip hno, mu⟩
          refine ⟨_, rfl, _, rfl, rfl, _, rfl, ite2 (fun hy => ?_) (fun hy => iteF ?_)⟩
          · have ey : stL ls z = y := V.int.inj (of_decide_eq_true hy)
            refine ⟨_, rfl, _, rfl, hA, _, rfl, Or.inl (SqL.of hh5), rfl, flat_ints _, _, rfl, ?_⟩
            rw [if_pos rfl, inV_ints]
            cases hc : hs3.contains (enL ls z) with
            | true => exact iteF (skip fun _ => List.contains_iff_mem.mp hc)
            | false =>
              have out1 : enL ls z ∉ hs3 := fun hm => by
                rw [List.contains_iff_mem.mpr hm] at hc
                cases hc
              have tn2 := tn.put zm ey out1 ⟨ends.2.2.1, ends.2.2.2.1⟩
              have hs4l : (hs3 ++ [enL ls z]).length ≤ 10 := Nat.le_trans (inRange tn2.nd tn2.rng) (by have := hn.ok.m1; omega)
              rw [List.length_append] at hs4l
              refine iteT ⟨_, rfl, Or.inl ⟨rfl, _, SqL.of hh5⟩, _, rfl, hA, _, .int (enL ls z), rfl, rfl, hh5, by rw [List.length_map]; exact Nat.lt_of_le_of_lt hs3l (by decide), ?_⟩
              have hw6 : upd H5 hA (.lst (hs3.map V.int ++ [V.int (enL ls z)])) wA = some (.lst (wl4.map V.int)) := by rw [upd_ne (Ne.symm nhw)]; exact hw5
              refine ⟨_, rfl, Or.inl ⟨rfl, _, SqL.of hw6⟩, _, rfl, wA, _, .int (enL ls z), rfl, rfl, hw6, by rw [List.length_map]; exact Nat.lt_of_le_of_lt (show wl4.length ≤ 20 by omega) (by decide), ?_⟩
              refine ⟨_, _, _, hs3 ++ [enL ls z], wl4 ++ [enL ls z], rfl, samePut (samePut s5 nA) nWH, ?_, ?_, by rw [takeSucc zs hz5]; exact tn2, ?_⟩
              · rw [upd_ne nhw, upd_same, List.map_append]
                rfl
              · rw [upd_same, List.map_append]
                rfl
              · rw [List.length_append, List.length_append]
                show 2 * (10 - (hs3.length + 1)) + (wl4.length + 1) ≤ _
                have e1 : hs3.length + 1 ≤ 10 := hs4l
                omega
          · exact skip fun e => (hy (decide_eq_true (congrArg V.int e))).elim
        · rintro σ5 H5 ⟨v6, v7, v8, hs3, wl4, rfl, s5, hh5, hw5, tn, mu⟩
          rw [List.length_map, List.take_length] at tn
          refine ⟨⟨_, _, _, _, hs3, wl4, rfl, s5, hh5, hw5, tn.fin, by omega⟩, ?_⟩
          unfold lenAt
          rw [hh5, hw5]
          show 2 * (10 - (hs3.map V.int).length) + (wl4.map V.int).length < _
          rw [List.length_map, List.length_map]
          omega
      · have wz : wl = [] := List.eq_nil_of_length_eq_zero (by
          rw [List.length_map] at hpos
          have : ¬ ((0 : Int) < (wl.length : Int)) := fun z => hpos (decide_eq_true z)
          omega)
        subst wz
        exact ⟨_, rfl, k hA hs H2 nA s3 hh wk.done wk.rng⟩
    · rintro σ2 H2 Q1 Q2 hm ⟨v, h0, p, ys, e, hs, i, j, e1, e2, b2, eb, q⟩
      exact ⟨v, h0, p, ys, e, hs, i, j, e1, e2, b2, eb, hm _ _ q⟩
end
end K06
namespace K06
open PySem PySem.Spec PyProof.Rows L2 Kv
/-! ### grows_from, is_grown, heard_places, heard_by -/
/-- a class over ValueError, without fields -/
structure XcK (K : PySem.W.Frag) (mg : Str → Option Value) (x : Str) : Prop where
  ex : PySem.W.excIn K (He.ga K x) He.veBase "ValueError.__new__" = true
  g : mg x = some (.ref (He.ga K x))
  k : PySem.W.keepIn K (.ref (He.ga K x)) = true
  s : PySem.W.subIn K (.ref (He.ga K x)) (.type "BaseException") = some true
  t : PySem.W.typeIn K (.ref (He.ga K x)) = some (.type "type")
/-- ints that are a lot of the links, of which each leads to a place of its own, come to from bs, that is none of bs -/
structure GrowsI (ls : List (Int × Int)) (bs zs : List Int) : Prop where
  up : zs.Pairwise (· < ·)
  rng : ∀ z ∈ zs, 0 ≤ z ∧ z < ls.length
  nd : (bs ++ zs.map (enL ls)).Nodup
  rc : ∀ z ∈ zs, Reach (stL ls) (enL ls) bs zs (enL ls z)
def Grows (ls : List (Int × Int)) (bs : List Int) (e : PyData) : Prop := ∃ zs, e = .tuple (zs.map PyData.int) ∧ GrowsI ls bs zs
theorem lotInts {b : Int} : ∀ {ds : List PyData} {lo : Int}, lotAll b lo ds = true → ∃ zs : List Int, ds = zs.map PyData.int ∧ zs.Pairwise (· < ·) ∧ ∀ z ∈ zs, lo ≤ z ∧ z < b
  | [], lo, _ => ⟨[], rfl, .nil, fun z hz => nomatch hz⟩
  | .int i :: ds, lo, h => by
    have h2 : ((decide (lo ≤ i) && decide (i ≤ b - 1)) && lotAll b (i + 1) ds) = true := h
    rw [Bool.and_eq_true, Bool.and_eq_true, decide_eq_true_eq, decide_eq_true_eq] at h2
    obtain ⟨⟨h3, h4⟩, h5⟩ := h2
    obtain ⟨zs, e, p, r⟩ := lotInts h5
    refine ⟨i :: zs, by rw [e]; rfl, List.pairwise_cons.mpr ⟨fun z hz => by have := (r z hz).1; omega, p⟩, fun z hz => ?_⟩
    rcases List.mem_cons.mp hz with q | q
    · rw [q]
      omega
    · have := r z q
      omega
  | .none :: _, _, h => by cases h
  | .bool _ :: _, _, h => by cases h
  | .str _ :: _, _, h => by cases h
  | .list _ :: _, _, h => by cases h
  | .tuple _ :: _, _, h => by cases h
  | .dict _ :: _, _, h => by cases h
theorem lotOfInts {b : Int} : ∀ {zs : List Int} {lo : Int}, zs.Pairwise (· < ·) → (∀ z ∈ zs, lo ≤ z ∧ z < b) → lotAll b lo (zs.map PyData.int) = true
  | [], _, _, _ => rfl
  | z :: zs, lo, p, h => by
    obtain ⟨p1, p2⟩ := List.pairwise_cons.mp p
    have h0 := h z List.mem_cons_self
    show ((decide (lo ≤ z) && decide (z ≤ b - 1)) && lotAll b (z + 1) (zs.map PyData.int)) = true
    rw [decide_eq_true h0.1, decide_eq_true (show z ≤ b - 1 by omega), lotOfInts p2 fun y hy => ⟨by have := p1 y hy; omega, (h y (List.mem_cons_of_mem _ hy)).2⟩]
    rfl
theorem intsInj : ∀ {xs ys : List Int}, xs.map PyData.int = ys.map PyData.int → xs = ys
  | [], [], _ => rfl
  | [], _ :: _, h => by cases h
  | _ :: _, [], h => by cases h
  | x :: xs, y :: ys, h => by
    rw [List.map_cons, List.map_cons] at h
    injection h with h1 h2
    rw [PyData.int.inj h1, intsInj h2]
theorem thInv : ∀ {zs : List Int} {H : Hp} {vs : List V}, ThAll H vs (zs.map PyData.int) → vs = zs.map V.int
  | [], _, _, h => by cases h; rfl
  | z :: zs, _, _, h => by
    cases h with
    | cons h1 h2 =>
      cases h1
      rw [thInv h2]
      rfl
/-- a lot of links, as it stands -/
theorem lotAt {H : Hp} {x : V} {e : PyData} {n : Int} (hx : Th H x e) (h : isLotD e n = true) : ∃ (t : Addr) (zs : List Int), x = .ref t ∧ e = .tuple (zs.map PyData.int) ∧ H t = some (.tup (zs.map V.int)) ∧ zs.Pairwise (· < ·) ∧ (∀ z ∈ zs, 0 ≤ z ∧ z < n) ∧ zs.length ≤ 100 := by
  cases hx with
  | tup ha hs hl =>
    obtain ⟨zs, e, p, r⟩ := lotInts (show lotAll n 0 _ = true from h)
    subst e
    have ev := thInv hs
    subst ev
    rw [List.length_map] at hl
    exact ⟨_, zs, rfl, rfl, ha, p, r, hl⟩
  | _ => cases h
theorem heardLen {ls : List (Int × Int)} {bs zs hs : List Int} (ah : AllHeard (stL ls) (enL ls) bs zs hs) (bnd : bs.Nodup) : hs.length = bs.length + zs.length ↔ ((bs ++ zs.map (enL ls)).Nodup ∧ ∀ z ∈ zs, Reach (stL ls) (enL ls) bs zs (enL ls z)) := by
  have sub : ∀ k ∈ hs, k ∈ bs ++ zs.map (enL ls) := fun k hk => by
    cases ah.rc k hk with
    | base hb => exact List.mem_append_left _ hb
    | step _ hz => exact List.mem_append_right _ (List.mem_map_of_mem hz)
  have len : (bs ++ zs.map (enL ls)).length = bs.length + zs.length := by rw [List.length_append, List.length_map]
  constructor
  · intro h
    have hl : (bs ++ zs.map (enL ls)).length ≤ hs.length := by rw [len, h]; exact Nat.le_refl _
    exact ⟨nodupOfAll ah.nd sub hl, fun z hz => ah.rc _ (nodupAll ah.nd sub hl _ (List.mem_append_right _ (List.mem_map_of_mem hz)))⟩
  · rintro ⟨nd, rc⟩
    rw [← len]
    refine sameCard ah.nd nd fun k => ⟨sub k, fun hk => ?_⟩
    rcases List.mem_append.mp hk with q | q
    · exact ah.sub k q
    · obtain ⟨z, hz, rfl⟩ := List.mem_map.mp q
      exact ah.mem.mpr (rc z hz)
def spGrows (K : PySem.W.Frag) (C : Addr) : Sp := fun vs H Q _ => ∃ (a l b : Addr) (m r : Int) (ws : List V) (ls : List (Int × Int)) (bs : List Int) (x : V) (e : PyData), vs = [.ref a, .ref b, x] ∧ NetO C H a l m r ws ls ∧ SqT K H b (bs.map V.int) ∧ bs.Nodup ∧ (∀ z ∈ bs, 0 ≤ z ∧ z < m) ∧ Th H x e ∧
  ∀ (c : Bool) H2, Same H H2 → (c = true ↔ Grows ls bs e) → Q (.bl c) H2
/-- what stands first is no Net -/
def NoNetV (H : Hp) (x : V) : Prop := ∃ d, Th H x d
def spIsGrown (C CN : Addr) : Sp := fun vs H Q E => ∃ x y : V, vs = [x, y] ∧ ((∃ (a l : Addr) (m r : Int) (ws : List V) (ls : List (Int × Int)) (e : PyData), x = .ref a ∧ NetO C H a l m r ws ls ∧ Th H y e ∧ ∀ (c : Bool) H2, Same H H2 → (c = true ↔ Grows ls [r] e) → Q (.bl c) H2) ∨ (NoNetV H x ∧ ∀ H2, Same H H2 → E (.ref CN) none H2))
def spPlaces (C : Addr) : Sp := fun vs H Q _ => ∃ (a l t : Addr) (m r : Int) (ws : List V) (ls : List (Int × Int)) (zs : List Int), vs = [.ref a, .ref t] ∧ NetO C H a l m r ws ls ∧ H t = some (.tup (zs.map V.int)) ∧ (∀ z ∈ zs, 0 ≤ z ∧ z < ls.length) ∧
  ∀ (p : Addr) (hs : List Int) (H2 : Hp), H p = none → Same H H2 → H2 p = some (.tup (hs.map V.int)) → hs.Pairwise (· < ·) → (∀ k, k ∈ hs ↔ Reach (stL ls) (enL ls) [r] zs k) → (∀ h ∈ hs, 0 ≤ h ∧ h < m) → Q (.ref p) H2
def spHeardBy (C CN CG : Addr) : Sp := fun vs H Q E => ∃ x y : V, vs = [x, y] ∧ ((∃ (a l : Addr) (m r : Int) (ws : List V) (ls : List (Int × Int)) (e : PyData), x = .ref a ∧ NetO C H a l m r ws ls ∧ Th H y e ∧ (¬ Grows ls [r] e → ∀ H2, Same H H2 → E (.ref CG) none H2) ∧
  ∀ zs : List Int, e = .tuple (zs.map PyData.int) → GrowsI ls [r] zs → ∀ (p : Addr) (hs : List Int) (H2 : Hp), Same H H2 → H2 p = some (.tup (hs.map V.int)) → hs.Pairwise (· < ·) → (∀ k, k ∈ hs ↔ Reach (stL ls) (enL ls) [r] zs k) → (∀ h ∈ hs, 0 ≤ h ∧ h < m) → Q (.ref p) H2) ∨ (NoNetV H x ∧ ∀ H2, Same H H2 → E (.ref CN) none H2))
section
variable {P : Program} {w : World} {K : PySem.W.Frag} {mg : Str → Option Value} {base : Heap}
theorem ok_grows_from (d : Dn K mg) (B : Bn mg) (N : Nk K mg d) : FnOk P w K mg base CX0 4 d.f_grows_from d.fd_grows_from ["net", "begun", "thing"] (spGrows K (He.ga K "Net")) := by
  have G_is_lot := ok_is_lot (P := P) (w := w) (base := base) d B
  have G_heard_from := ok_heard_from (P := P) (w := w) (base := base) d B N
  refine d.D_grows_from.F.ok scgrows_from (fun vs H Q E h => ?_) (fun cdv A outer s H vs Q E hr h => ?_)
  · obtain ⟨a, l, b, m, r, ws, ls, bs, x, e, rfl, _⟩ := h
    rfl
  · obtain ⟨a, l, b, m, r, ws, ls, bs, x, e, rfl, hn, hb, bnd, brg, hx, k⟩ := h
    refine ⟨_, PSs.nox ((pss_cons (ps_if (pt_not (pt_val (pe_call G_is_lot (hr.mono (by decide)) (by rfl) d.D_is_lot.g d.D_is_lot.F.kp d.D_is_lot.b .nil pass0 (pa_cons (pv 2) (pa_cons (pe_callB call_len_seq (by rfl) B.len PySem.boot_len (pa_cons (pe_fld (pv 0) (by rfl)) pa_nil)) pa_nil)))))
      (pss_one (ps_ret pe_bl)) pss_nil)
      (pss_one (ps_ret (pe_cmpR op_eq (pe_callB call_len_seq (by rfl) B.len PySem.boot_len (pa_cons (pe_call G_heard_from (hr.mono (by decide)) (by rfl) d.D_heard_from.g d.D_heard_from.F.kp d.D_heard_from.b .nil pass0 (pa_cons (pv 0) (pa_cons (pv 1) (pa_cons (pv 2) pa_nil)))) pa_nil)) (pe_op op_add (pe_callB call_len_seq (by rfl) B.len PySem.boot_len (pa_cons (pv 1) pa_nil)) (pe_callB call_len_seq (by rfl) B.len PySem.boot_len (pa_cons (pv 2) pa_nil))) (nomark _)))))), ?_⟩
    obtain ⟨dx, ha⟩ := hn.ob
    refine ⟨_, rfl, _, rfl, a, _, dx, _, _, rfl, ha, N.cls, N.nl, rfl, l, ws, rfl, Or.inr (SqT.of hn.at_), x, e, _, rfl, hx, _, rfl, ?_⟩
    have wl : (ws.length : Int) = ls.length := by rw [hn.wl]
    cases hlot : isLotD e (ws.length : Int) with
    | false =>
      refine iteT (k false H (Same.refl _) ⟨fun z => (nomatch z), ?_⟩)
      rintro ⟨zs, rfl, g⟩
      have : isLotD (.tuple (zs.map PyData.int)) (ws.length : Int) = true := lotOfInts g.up fun z hz => by
        have := g.rng z hz
        omega
      rw [this] at hlot
      cases hlot
    | true =>
      obtain ⟨t, zs, rfl, rfl, ht, up, rng, zl⟩ := lotAt hx hlot
      refine iteF ⟨_, rfl, _, rfl, _, rfl, a, l, b, t, m, r, ws, ls, bs, zs, rfl, hn, hb, bnd, brg, ht, fun z hz => by have := rng z hz; omega, fun p hs H2 np s2 hp ah hrg => ?_⟩
      refine ⟨p, _, rfl, Or.inl (SqL.of hp), _, rfl, b, _, rfl, Or.inr (sameT s2 hb), _, rfl, t, _, rfl, Or.inr (SqT.of (s2 _ _ ht)), _, _, rfl, rfl, rfl, k _ H2 s2 ?_⟩
      rw [decide_eq_true_iff, List.length_map, List.length_map, List.length_map]
      have hl := heardLen ah bnd
      constructor
      · intro h
        have h2 : hs.length = bs.length + zs.length := by
          have := V.int.inj h
          omega
        obtain ⟨h3, h4⟩ := hl.mp h2
        exact ⟨zs, rfl, up, fun z hz => by have := rng z hz; omega, h3, h4⟩
      · rintro ⟨zs2, e2, g⟩
        have e3 : zs = zs2 := by
          have e4 := PyData.tuple.inj e2
          exact intsInj e4
        subst e3
        have h2 := hl.mpr ⟨g.nd, g.rc⟩
        rw [h2]
        rfl
theorem ok_is_grown (d : Dn K mg) (B : Bn mg) (N : Nk K mg d) : FnOk P w K mg base (L2.CX P w) 5 d.f_is_grown d.fd_is_grown ["net", "thing"] (spIsGrown (He.ga K "Net") (He.ga K "NoNet")) := by
  have G_need_net := ok_need (P := P) (w := w) (base := base) d B N
  have G_grows_from := ok_grows_from (P := P) (w := w) (base := base) d B N
  refine d.D_is_grown.F.ok (CX := L2.CX P w) scis_grown (fun vs H Q E h => ?_) (fun cdv A outer s H vs Q E hr h => ?_)
  · obtain ⟨x, y, rfl, _⟩ := h
    rfl
  · obtain ⟨x, y, rfl, h⟩ := h
    refine ⟨_, (pss_cons (ps_expr (pe_call G_need_net (hr.mono (by decide)) (by rfl) d.D_need_net.g d.D_need_net.F.kp d.D_need_net.b .nil (passes_call (takes_of rfl rfl rfl rfl) (fun _ _ _ _ h => h)) (pa_cons (pv 0) pa_nil)))
      (pss_one (ps_ret (pe_call G_grows_from (hr.mono (by decide)) (by rfl) d.D_grows_from.g d.D_grows_from.F.kp d.D_grows_from.b .nil pass0 (pa_cons (pv 0) (pa_cons (pe_tup (pa_cons (pe_fld (pv 0) (by rfl)) pa_nil)) (pa_cons (pv 1) pa_nil))))))), ?_⟩
    rcases h with ⟨a, l, m, r, ws, ls, e, rfl, hn, hy, k⟩ | ⟨hx, hE⟩
    · obtain ⟨dx, ha⟩ := hn.ob
      refine ⟨_, rfl, _, rfl, Or.inl ⟨⟨a, dx, _, rfl, ha⟩, ?_⟩⟩
      refine ⟨_, rfl, _, rfl, a, _, dx, _, _, rfl, ha, N.cls, N.nr, rfl, (by show 1 ≤ sizeLine; decide), fun t nt => ?_⟩
      have st := sameNew (o := HO.tup [V.int r]) nt
      refine ⟨_, rfl, a, l, t, m, r, ws, ls, [r], y, e, rfl, hn.keep st, SqT.of upd_same, by simp, fun z hz => ?_, hy.keep st, fun c H2 s2 hc => k c H2 (st.trans s2) hc⟩
      rw [List.mem_singleton.mp hz]
      exact ⟨hn.ok.r0, hn.ok.r1⟩
    · exact ⟨_, rfl, x, rfl, Or.inr ⟨hx, hE⟩⟩
theorem ok_heard_places (d : Dn K mg) (B : Bn mg) (N : Nk K mg d) : FnOk P w K mg base CX0 2 d.f_heard_places d.fd_heard_places ["net", "grown"] (spPlaces (He.ga K "Net")) := by
  have G_heard_from := ok_heard_from (P := P) (w := w) (base := base) d B N
  refine d.D_heard_places.F.ok scheard_places (fun vs H Q E h => ?_) (fun cdv A outer s H vs Q E hr h => ?_)
  · obtain ⟨a, l, t, m, r, ws, ls, zs, rfl, _⟩ := h
    rfl
  · obtain ⟨a, l, t, m, r, ws, ls, zs, rfl, hn, ht, hz, k⟩ := h
    refine ⟨_, PSs.nox ((pss_one (ps_ret (pe_callTy call_tuple_of (by rfl) B.tup boot_tuple (pa_cons (pe_callB cr_sortedI (by rfl) B.srt (by decide +kernel) (pa_cons (pe_call G_heard_from (hr.mono (by decide)) (by rfl) d.D_heard_from.g d.D_heard_from.F.kp d.D_heard_from.b .nil pass0 (pa_cons (pv 0) (pa_cons (pe_tup (pa_cons (pe_fld (pv 0) (by rfl)) pa_nil)) (pa_cons (pv 1) pa_nil)))) pa_nil)) pa_nil))))), ?_⟩
    obtain ⟨dx, ha⟩ := hn.ob
    refine ⟨_, rfl, _, rfl, a, _, dx, _, _, rfl, ha, N.cls, N.nr, rfl, (by show 1 ≤ sizeLine; decide), fun b nb => ?_⟩
    have sb := sameNew (o := HO.tup [V.int r]) nb
    refine ⟨_, rfl, a, l, b, t, m, r, ws, ls, [r], zs, rfl, hn.keep sb, SqT.of upd_same, by simp, fun z hz2 => ?_, sb _ _ ht, hz, fun p hs H2 np s2 hp ah hrg => ?_⟩
    · rw [List.mem_singleton.mp hz2]
      exact ⟨hn.ok.r0, hn.ok.r1⟩
    · refine ⟨p, hs, rfl, SqL.of hp, fun os q hperm hsrt nq => ⟨q, _, rfl, Or.inl ⟨SqL.of upd_same, fun u nu => ?_⟩⟩⟩
      have sq := sameNew (o := HO.lst (os.map V.int)) nq
      have su := sameNew (o := HO.tup (os.map V.int)) nu
      exact k u os _ ((sb.trans s2).free (sq.free nu)) (((sb.trans s2).trans sq).trans su) upd_same (sortedLt hperm hsrt ah.nd) (fun k => by rw [hperm.mem_iff]; exact ah.mem) fun h hh => hrg h (hperm.mem_iff.mp hh)
theorem ok_heard_by (d : Dn K mg) (B : Bn mg) (N : Nk K mg d) (XG : XcK K mg "NoGrown") : FnOk P w K mg base (L2.CX P w) 6 d.f_heard_by d.fd_heard_by ["net", "grown"] (spHeardBy (He.ga K "Net") (He.ga K "NoNet") (He.ga K "NoGrown")) := by
  have G_need_net := ok_need (P := P) (w := w) (base := base) d B N
  have G_is_grown := ok_is_grown (P := P) (w := w) (base := base) d B N
  have G_heard_places := ok_heard_places (P := P) (w := w) (base := base) d B N
  refine d.D_heard_by.F.ok (CX := L2.CX P w) scheard_by (fun vs H Q E h => ?_) (fun cdv A outer s H vs Q E hr h => ?_)
  · obtain ⟨x, y, rfl, h⟩ := h
    rfl
  · obtain ⟨x, y, rfl, h⟩ := h
    refine ⟨_, (pss_cons (ps_expr (pe_call G_need_net (hr.mono (by decide)) (by rfl) d.D_need_net.g d.D_need_net.F.kp d.D_need_net.b .nil (passes_call (takes_of rfl rfl rfl rfl) (fun _ _ _ _ h => h)) (pa_cons (pv 0) pa_nil)))
      (pss_cons (ps_if (pt_not (pt_val (pe_call G_is_grown (hr.mono (by decide)) (by rfl) d.D_is_grown.g d.D_is_grown.F.kp d.D_is_grown.b .nil (passes_call (takes_of rfl rfl rfl rfl) (fun _ _ _ _ h => h)) (pa_cons (pv 0) (pa_cons (pv 1) pa_nil)))))
      (pss_one (ps_raise rfl (takes_of rfl rfl rfl rfl) (pmk_ret rfl (pe_exc0 PySem.F.excBase_ValueError XG.ex XG.g XG.k (by rfl))))) pss_nil)
      (pss_one (ps_ret (pe_call G_heard_places (hr.mono (by decide)) (by rfl) d.D_heard_places.g d.D_heard_places.F.kp d.D_heard_places.b .nil pass0 (pa_cons (pv 0) (pa_cons (pv 1) pa_nil))))))), ?_⟩
    rcases h with ⟨a, l, m, r, ws, ls, e, rfl, hn, hy, kE, k⟩ | ⟨hx, hE⟩
    · obtain ⟨dx, ha⟩ := hn.ob
      refine ⟨_, rfl, _, rfl, Or.inl ⟨⟨a, dx, _, rfl, ha⟩, ?_⟩⟩
      refine ⟨_, rfl, _, rfl, _, _, rfl, Or.inl ⟨a, l, m, r, ws, ls, e, rfl, hn, hy, fun c H2 s2 hc => ⟨_, rfl, ?_⟩⟩⟩
      cases c with
      | false =>
        refine iteT ?_
        intro ea na
        refine ⟨ea, _, rfl, upd_same, fr0_none (s2.free na), raises_own XG.s XG.t, ?_⟩
        rw [delH_new na]
        exact kE (fun g => nomatch hc.mpr g) H2 s2
      | true =>
        obtain ⟨zs, rfl, g⟩ := hc.mp rfl
        obtain ⟨t, ey, ht⟩ : ∃ t, y = .ref t ∧ H t = some (.tup (zs.map V.int)) := by
          cases hy with
          | tup ha hs hl => exact ⟨_, rfl, by rw [← thInv hs]; exact ha⟩
        subst ey
        refine iteF ⟨_, rfl, _, rfl, a, l, t, m, r, ws, ls, zs, rfl, hn.keep s2, s2 _ _ ht, g.rng, fun p hs H3 np s3 hp up mem rng => ?_⟩
        exact k zs rfl g p hs H3 (s2.trans s3) hp up mem rng
    · exact ⟨_, rfl, x, rfl, Or.inr ⟨hx, hE⟩⟩
end
end K06
namespace K06
open PySem PySem.Spec PyProof.Rows L2 Kv
/-- the inner loop of a display with two -/
theorem lc_in {J : L2.It} {n : Nat} {G : Hp → Prop} {Y : Nat → Hp → V → Hp → Prop} (w : Walk J n G Y) {g1 : TG} {tt1 : TT} {te : TE} {vs1 : List Nat} {σ : L2.St} {D : Addr} {Nx : Hp → Prop} {H4 : Hp} (Pv : Nat → Hp → Prop) (h0 : Pv 0 H4) (hG : ∀ i H, i ≤ n → Pv i H → G H)
    (hs : ∀ i x H H', i < n → Pv i H → Y i H x H' → g1 x (wipe σ vs1) H' fun σ3 H5 => wipe σ3 vs1 = wipe σ vs1 ∧ tt1 σ3 H5 fun b H6 =>
      if b = true then te σ3 H6 fun y H7 => ∃ acc, H7 D = some (.lst acc) ∧ acc.length < sizeLine ∧ Pv (i + 1) (upd H7 D (.lst (acc ++ [y]))) else Pv (i + 1) H6) (hd : ∀ H, Pv n H → Nx H) :
    ∃ W1 : Nat → Nat → Hp → Prop, (∃ m, W1 0 m H4) ∧ ∀ j k H, W1 j k H →
      (J.stop j H ∧ Nx H) ∨ (J.go j H ∧ ∃ Nx1 : Hp → Prop, (∀ H', Nx1 H' → ∃ k', k' < k ∧ W1 (j + 1) k' H') ∧ ∀ x H', J.yld j H x H' → g1 x (wipe σ vs1) H' fun σ3 H5 => wipe σ3 vs1 = wipe σ vs1 ∧ tt1 σ3 H5 fun b H6 =>
        if b = true then te σ3 H6 fun y H7 => ∃ acc, H7 D = some (.lst acc) ∧ acc.length < sizeLine ∧ Nx1 (upd H7 D (.lst (acc ++ [y]))) else Nx1 H6) := by
  refine ⟨fun i m H => m = n - i ∧ i ≤ n ∧ Pv i H, ⟨n, by simp, Nat.zero_le _, h0⟩, ?_⟩
  rintro i m H ⟨rfl, hi, p⟩
  have q := hG i H hi p
  by_cases hlt : i < n
  · exact .inr ⟨w.goes i H hlt q, Pv (i + 1), fun H' p' => ⟨n - (i + 1), by omega, rfl, hlt, p'⟩, fun x H' y => hs i x H H' hlt p (w.yields i H x H' hlt q y)⟩
  · have e : i = n := by omega
    subst e
    exact .inl ⟨w.stops H q, hd H p⟩
end K06
namespace K06
open PySem PySem.Spec PyProof.Rows L2 Kv
/-! ### share_none, is_wood, is_tree, is_packing -/
/-- tuples of ints, one behind another -/
def LotsAt (H : Hp) : List V → List (List Int) → Prop
  | [], [] => True
  | v :: vs, l :: ls => (∃ T, v = .ref T ∧ H T = some (.tup (l.map V.int))) ∧ LotsAt H vs ls
  | _, _ => False
theorem LotsAt.length {H : Hp} : ∀ {vs : List V} {ls : List (List Int)}, LotsAt H vs ls → vs.length = ls.length
  | [], [], _ => rfl
  | _ :: _, _ :: _, ⟨_, t⟩ => congrArg (· + 1) (LotsAt.length t)
  | [], _ :: _, h => h.elim
  | _ :: _, [], h => h.elim
theorem LotsAt.get {H : Hp} : ∀ {vs : List V} {ls : List (List Int)}, LotsAt H vs ls → ∀ {i : Nat} {x : V}, vs[i]? = some x → ∃ T l, x = .ref T ∧ ls[i]? = some l ∧ H T = some (.tup (l.map V.int))
  | [], [], _, _, _, e => by cases e
  | v :: vs, l :: ls, ⟨⟨T, e, hT⟩, t⟩, i, x, hx => by
    cases i with
    | zero =>
      cases hx
      exact ⟨T, l, e, rfl, hT⟩
    | succ i => exact LotsAt.get t (i := i) hx
  | [], _ :: _, h, _, _, _ => h.elim
  | _ :: _, [], h, _, _, _ => h.elim
def spShare : Sp := fun vs H Q _ => ∃ (t : Addr) (ws : List V) (ts : List (List Int)), vs = [.ref t] ∧ H t = some (.tup ws) ∧ LotsAt H ws ts ∧ ts.flatten.length ≤ 1000 ∧ ∀ (c : Bool) H2, Same H H2 → (c = true ↔ ts.flatten.Nodup) → Q (.bl c) H2
/-- a wood of bs, of m places -/
def Wooded (ls : List (Int × Int)) (m : Int) (bs : List Int) (e : PyData) : Prop := ∃ zs, e = .tuple (zs.map PyData.int) ∧ GrowsI ls bs zs ∧ (bs.length : Int) + zs.length = m
/-- trees that share no link -/
def Packed (ls : List (Int × Int)) (m r : Int) (e : PyData) : Prop := ∃ ts : List (List Int), e = .tuple (ts.map fun zs => .tuple (zs.map PyData.int)) ∧ (∀ zs ∈ ts, GrowsI ls [r] zs ∧ 1 + (zs.length : Int) = m) ∧ ts.flatten.Nodup
theorem lotsInj : ∀ {xs ys : List (List Int)}, (xs.map fun zs => PyData.tuple (zs.map PyData.int)) = (ys.map fun zs => PyData.tuple (zs.map PyData.int)) → xs = ys
  | [], [], _ => rfl
  | [], _ :: _, h => by cases h
  | _ :: _, [], h => by cases h
  | x :: xs, y :: ys, h => by
    rw [List.map_cons, List.map_cons] at h
    injection h with h1 h2
    rw [intsInj (PyData.tuple.inj h1), lotsInj h2]
/-- all woods: lots -/
theorem woodsAt {ls : List (Int × Int)} {m : Int} {bs : List Int} {H : Hp} : ∀ {ws : List V} {ds : List PyData}, ThAll H ws ds → (∀ d ∈ ds, Wooded ls m bs d) → ∃ ts : List (List Int), ds = (ts.map fun zs => PyData.tuple (zs.map PyData.int)) ∧ LotsAt H ws ts ∧ ∀ zs ∈ ts, GrowsI ls bs zs ∧ (bs.length : Int) + zs.length = m
  | [], [], _, _ => ⟨[], rfl, trivial, fun z hz => nomatch hz⟩
  | v :: vs, d :: ds, h, hw => by
    cases h with
    | cons h1 h2 =>
    obtain ⟨ts, e, hl, hg⟩ := woodsAt h2 fun d hd => hw d (List.mem_cons_of_mem _ hd)
    obtain ⟨zs, ez, g, l⟩ := hw d List.mem_cons_self
    subst ez
    refine ⟨zs :: ts, by rw [e]; rfl, ⟨?_, hl⟩, fun y hy => ?_⟩
    · cases h1 with
      | tup ha hs _ =>
        rw [thInv hs] at ha
        exact ⟨_, rfl, ha⟩
    · rcases List.mem_cons.mp hy with q | q
      · rw [q]
        exact ⟨g, l⟩
      · exact hg y q
  | [], _ :: _, h, _ => by cases h
  | _ :: _, [], h, _ => by cases h
theorem flatLe {n : Nat} : ∀ {ts : List (List Int)}, (∀ zs ∈ ts, zs.length ≤ n) → ts.flatten.length ≤ n * ts.length
  | [], _ => by simp
  | t :: ts, h => by
    have a := flatLe (n := n) (ts := ts) fun z hz => h z (List.mem_cons_of_mem _ hz)
    have b := h t List.mem_cons_self
    rw [List.flatten_cons, List.length_append, List.length_cons, Nat.mul_add]
    omega
/-- as many as there are, just if none is there twice -/
theorem cardNodup {l : List Int} {c : Nat} (h : ∀ ys : List Int, ys.Nodup → (∀ k, k ∈ ys ↔ k ∈ l) → ys.length = c) : c = l.length ↔ l.Nodup := by
  constructor
  · intro e
    obtain ⟨ys, nd, hy⟩ := exNodup l
    have e2 := h ys nd hy
    exact nodupOfAll nd (fun k hk => (hy k).mp hk) (by omega)
  · intro nd
    exact (h l nd fun k => Iff.rfl).symm
def spIsWood (K : PySem.W.Frag) (C : Addr) : Sp := fun vs H Q _ => ∃ (a l b : Addr) (m r : Int) (ws : List V) (ls : List (Int × Int)) (bs : List Int) (x : V) (e : PyData), vs = [.ref a, .ref b, x] ∧ NetO C H a l m r ws ls ∧ SqT K H b (bs.map V.int) ∧ bs.Nodup ∧ (∀ z ∈ bs, 0 ≤ z ∧ z < m) ∧ Th H x e ∧
  ∀ (c : Bool) H2, Same H H2 → (c = true ↔ Wooded ls m bs e) → Q (.bl c) H2
def spIsTree (C : Addr) : Sp := fun vs H Q _ => ∃ (a l : Addr) (m r : Int) (ws : List V) (ls : List (Int × Int)) (y : V) (e : PyData), vs = [.ref a, y] ∧ NetO C H a l m r ws ls ∧ Th H y e ∧ ∀ (c : Bool) H2, Same H H2 → (c = true ↔ Wooded ls m [r] e) → Q (.bl c) H2
def spIsPacking (C : Addr) : Sp := fun vs H Q _ => ∃ (a l : Addr) (m r : Int) (ws : List V) (ls : List (Int × Int)) (y : V) (e : PyData), vs = [.ref a, y] ∧ NetO C H a l m r ws ls ∧ Th H y e ∧ ∀ (c : Bool) H2, Same H H2 → (c = true ↔ Packed ls m r e) → Q (.bl c) H2
section
variable {P : Program} {w : World} {K : PySem.W.Frag} {mg : Str → Option Value} {base : Heap}
theorem ok_share_none (d : Dn K mg) (B : Bn mg) : FnOk P w K mg base CX0 1 d.f_share_none d.fd_share_none ["lots"] spShare := by
  refine d.D_share_none.F.ok scshare_none (fun vs H Q E h => ?_) (fun cdv A outer s H vs Q E hr h => ?_)
  · obtain ⟨t, ws, ts, rfl, _⟩ := h
    rfl
  · obtain ⟨t, ws, ts, rfl, ht, hl, flen, k⟩ := h
    refine ⟨_, PSs.nox ((pss_cons (ps_setLc2 (i := 1) (own := [("lot", 2), ("item", 3)]) (vs1 := [3]) (g := gName 2) (tt := tYes) (wi1 := iTup K (tVar 2)) (g1 := gName 3) (tt1 := tYes) (te := tVar 3) rfl scshare_none.nd rfl rfl (sw_true rfl rfl rfl (by decide +kernel)) (pi_tup (pv 0))
        (blkOk_by (N := ["lots", "items", "lot", "item"]) (sc := defScope sshare_none) (by decide +kernel)) (by decide) (fun _ _ _ _ _ => pg_name (i := 2) scshare_none.nd rfl (Or.inl rfl)) (fun _ _ _ _ _ => pts_nil)
        (fun _ _ _ _ _ => pi_tup (pv 2)) (fun _ _ _ _ _ => pg_name (i := 3) scshare_none.nd rfl (Or.inl rfl)) (fun _ _ _ _ _ => pts_nil) (fun _ _ _ _ _ => pv 3))
      (pss_one (ps_ret (pe_cmpR op_eq (pe_callB cr_lenS (by rfl) B.len PySem.boot_len (pa_cons (pe_callTy (cr_setI rfl) (by rfl) B.set boot_set (pa_cons (pv 1) pa_nil)) pa_nil)) (pe_callB call_len_seq (by rfl) B.len PySem.boot_len (pa_cons (pv 1) pa_nil)) (nomark _)))))), ?_⟩
    have wl := hl.length
    refine ⟨_, rfl, t, rfl, ⟨_, SqT.of ht⟩, fun D nD => ?_⟩
    refine ⟨fun i m2 G => m2 = ws.length - i ∧ i ≤ ws.length ∧ Same H G ∧ G D = some (.lst ((ts.take i).flatten.map V.int)), ⟨_, rfl, Nat.zero_le _, sameNew nD, upd_same⟩, ?_⟩
    rintro i m2 G ⟨rfl, hi, sG, hD⟩
    have src : SqT K G t ws := SqT.of (sG _ _ ht)
    by_cases hlt : i < ws.length
    · refine .inr ⟨walk_tup.goes i G hlt src, fun G2 => Same H G2 ∧ G2 D = some (.lst ((ts.take (i + 1)).flatten.map V.int)), fun G2 p => ⟨ws.length - (i + 1), by omega, rfl, hlt, p⟩, fun x G2 hy => ?_⟩
      obtain ⟨rfl, hx⟩ := walk_tup.yields i G x G2 hlt src hy
      obtain ⟨T, zs, rfl, hzs, hT⟩ := hl.get hx
      refine ⟨rfl, ?_⟩
      have part : ∀ j, ((ts.take i).flatten ++ zs.take j).length ≤ 1000 := fun j => by
        have h0 : ts.flatten = (ts.take (i + 1)).flatten ++ (ts.drop (i + 1)).flatten := by rw [← List.flatten_append, List.take_append_drop]
        have h1 : (ts.take (i + 1)).flatten.length ≤ ts.flatten.length := by
          rw [h0, List.length_append]
          omega
        rw [takeSucc _ hzs, List.flatten_append, List.length_append] at h1
        have h2 : ([zs] : List (List Int)).flatten = zs := by simp
        rw [h2] at h1
        rw [List.length_append, List.length_take]
        omega
      refine ⟨_, rfl, T, rfl, ⟨_, SqT.of (sG _ _ hT)⟩, lc_in (walk_tup (K := K) (a := T) (xs := zs.map V.int)) (fun j G3 => Same H G3 ∧ G3 D = some (.lst (((ts.take i).flatten ++ zs.take j).map V.int))) ⟨sG, by rw [List.take_zero, List.append_nil]; exact hD⟩ (fun j G3 _ h => SqT.of (h.1 _ _ hT)) (fun j x G3 G4 hj h y => ?_) (fun G3 h => ?_)⟩
      · obtain ⟨s3, h3⟩ := h
        obtain ⟨rfl, hx2⟩ := y
        rw [List.getElem?_map] at hx2
        obtain ⟨z, hz, rfl⟩ := Option.map_eq_some_iff.mp hx2
        refine ⟨rfl, ?_⟩
        refine ⟨_, rfl, _, h3, ?_, samePut s3 nD, ?_⟩
        · rw [List.length_map]
          exact Nat.lt_of_le_of_lt (part j) (by decide)
        · rw [upd_same, takeSucc _ hz, ← List.append_assoc, List.map_append (l₁ := (ts.take i).flatten ++ zs.take j)]
          rfl
      · obtain ⟨s3, h3⟩ := h
        refine ⟨s3, ?_⟩
        rw [List.length_map, List.take_length] at h3
        rw [takeSucc _ hzs, List.flatten_append]
        have h2 : ([zs] : List (List Int)).flatten = zs := by simp
        rw [h2]
        exact h3
    · have ei : i = ws.length := by omega
      subst ei
      refine .inl ⟨walk_tup.stops G src, ?_⟩
      rw [wl, List.take_length] at hD
      refine ⟨_, rfl, D, _, rfl, SqL.of hD, flen, fun S c nS _ hcard => ⟨S, _, c, rfl, upd_same, ?_⟩⟩
      have sS := sameNew (o := SetO w S (fun j => decide (j ∈ ts.flatten)) c) nS
      refine ⟨_, rfl, D, _, rfl, Or.inl (SqL.of (sS _ _ hD)), rfl, k _ _ (sG.trans sS) ?_⟩
      rw [decide_eq_true_iff, List.length_map]
      refine Iff.trans ⟨fun h => ?_, fun h => ?_⟩ (cardNodup hcard)
      · have := V.int.inj h
        omega
      · rw [h]
theorem ok_is_wood (d : Dn K mg) (B : Bn mg) (N : Nk K mg d) : FnOk P w K mg base CX0 5 d.f_is_wood d.fd_is_wood ["net", "begun", "thing"] (spIsWood K (He.ga K "Net")) := by
  have G_grows_from := ok_grows_from (P := P) (w := w) (base := base) d B N
  refine d.D_is_wood.F.ok scis_wood (fun vs H Q E h => ?_) (fun cdv A outer s H vs Q E hr h => ?_)
  · obtain ⟨a, l, b, m, r, ws, ls, bs, x, e, rfl, _⟩ := h
    rfl
  · obtain ⟨a, l, b, m, r, ws, ls, bs, x, e, rfl, hn, hb, bnd, brg, hx, k⟩ := h
    refine ⟨_, PSs.nox ((pss_one (ps_ret (pe_and (pe_call G_grows_from (hr.mono (by decide)) (by rfl) d.D_grows_from.g d.D_grows_from.F.kp d.D_grows_from.b .nil pass0 (pa_cons (pv 0) (pa_cons (pv 1) (pa_cons (pv 2) pa_nil)))) (pe_one (pe_cmpR op_eq (pe_op op_add (pe_callB call_len_seq (by rfl) B.len PySem.boot_len (pa_cons (pv 1) pa_nil)) (pe_callB call_len_seq (by rfl) B.len PySem.boot_len (pa_cons (pv 2) pa_nil))) (pe_fld (pv 0) (by rfl)) (nomark _))))))), ?_⟩
    refine ⟨_, rfl, _, rfl, _, rfl, a, l, b, m, r, ws, ls, bs, x, e, rfl, hn, hb, bnd, brg, hx, fun c H2 s2 hc => ⟨c, rfl, ?_⟩⟩
    cases c with
    | false =>
      refine iteF (k false H2 s2 ⟨fun z => (nomatch z), ?_⟩)
      rintro ⟨zs, ez, g, _⟩
      exact hc.mpr ⟨zs, ez, g⟩
    | true =>
      obtain ⟨zs, rfl, g⟩ := hc.mp rfl
      obtain ⟨t, ex, ht⟩ : ∃ t, x = .ref t ∧ H t = some (.tup (zs.map V.int)) := by
        cases hx with
        | tup ha hs hl => exact ⟨_, rfl, by rw [← thInv hs]; exact ha⟩
      subst ex
      obtain ⟨dx, ha⟩ := (hn.keep s2).ob
      refine iteT ⟨_, rfl, b, _, rfl, Or.inr (sameT s2 hb), _, rfl, t, _, rfl, Or.inr (SqT.of (s2 _ _ ht)), _, _, rfl, rfl, _, rfl, a, _, dx, _, _, rfl, ha, N.cls, N.nm, rfl, rfl, k _ H2 s2 ?_⟩
      rw [decide_eq_true_iff, List.length_map, List.length_map]
      constructor
      · intro h
        exact ⟨zs, rfl, g, V.int.inj h⟩
      · rintro ⟨zs2, e2, _, l2⟩
        have e3 : zs = zs2 := intsInj (PyData.tuple.inj e2)
        rw [← e3] at l2
        show V.int ((bs.length : Int) + zs.length) = V.int m
        rw [l2]
theorem ok_is_tree (d : Dn K mg) (B : Bn mg) (N : Nk K mg d) : FnOk P w K mg base (L2.CX P w) 6 d.f_is_tree d.fd_is_tree ["net", "thing"] (spIsTree (He.ga K "Net")) := by
  have G_need_net := ok_need (P := P) (w := w) (base := base) d B N
  have G_is_wood := ok_is_wood (P := P) (w := w) (base := base) d B N
  refine d.D_is_tree.F.ok (CX := L2.CX P w) scis_tree (fun vs H Q E h => ?_) (fun cdv A outer s H vs Q E hr h => ?_)
  · obtain ⟨a, l, m, r, ws, ls, y, e, rfl, _⟩ := h
    rfl
  · obtain ⟨a, l, m, r, ws, ls, y, e, rfl, hn, hy, k⟩ := h
    refine ⟨_, (pss_cons (ps_expr (pe_call G_need_net (hr.mono (by decide)) (by rfl) d.D_need_net.g d.D_need_net.F.kp d.D_need_net.b .nil (passes_call (takes_of rfl rfl rfl rfl) (fun _ _ _ _ h => h)) (pa_cons (pv 0) pa_nil)))
      (pss_one (ps_ret (pe_call G_is_wood (hr.mono (by decide)) (by rfl) d.D_is_wood.g d.D_is_wood.F.kp d.D_is_wood.b .nil pass0 (pa_cons (pv 0) (pa_cons (pe_tup (pa_cons (pe_fld (pv 0) (by rfl)) pa_nil)) (pa_cons (pv 1) pa_nil))))))), ?_⟩
    obtain ⟨dx, ha⟩ := hn.ob
    refine ⟨_, rfl, _, rfl, Or.inl ⟨⟨a, dx, _, rfl, ha⟩, ?_⟩⟩
    refine ⟨_, rfl, _, rfl, a, _, dx, _, _, rfl, ha, N.cls, N.nr, rfl, (by show 1 ≤ sizeLine; decide), fun t nt => ?_⟩
    have st := sameNew (o := HO.tup [V.int r]) nt
    refine ⟨_, rfl, a, l, t, m, r, ws, ls, [r], y, e, rfl, hn.keep st, SqT.of upd_same, by simp, fun z hz => ?_, hy.keep st, fun c H2 s2 hc => k c H2 (st.trans s2) hc⟩
    rw [List.mem_singleton.mp hz]
    exact ⟨hn.ok.r0, hn.ok.r1⟩
theorem ok_is_packing (d : Dn K mg) (B : Bn mg) (N : Nk K mg d) : FnOk P w K mg base (L2.CX P w) 7 d.f_is_packing d.fd_is_packing ["net", "thing"] (spIsPacking (He.ga K "Net")) := by
  have G_need_net := ok_need (P := P) (w := w) (base := base) d B N
  have G_is_tree := ok_is_tree (P := P) (w := w) (base := base) d B N
  have G_share_none := ok_share_none (P := P) (w := w) (base := base) d B
  refine d.D_is_packing.F.ok (CX := L2.CX P w) scis_packing (fun vs H Q E h => ?_) (fun cdv A outer s H vs Q E hr h => ?_)
  · obtain ⟨a, l, m, r, ws, ls, y, e, rfl, _⟩ := h
    rfl
  · obtain ⟨a, l, m, r, ws, ls, y, e, rfl, hn, hy, k⟩ := h
    refine ⟨_, (pss_cons (ps_expr (pe_call G_need_net (hr.mono (by decide)) (by rfl) d.D_need_net.g d.D_need_net.F.kp d.D_need_net.b .nil (passes_call (takes_of rfl rfl rfl rfl) (fun _ _ _ _ h => h)) (pa_cons (pv 0) pa_nil)))
      (pss_cons (ps_if (pt_not (pt_val (pe_callB call_isi (by rfl) B.isi boot_isinstance (pa_cons (pv 1) (pa_cons (pe_bltn (v := .ty "tuple") (by rfl) B.tup (by decide +kernel) rfl) pa_nil)))))
      (pss_one (ps_ret pe_bl)) pss_nil)
      (pss_cons (ps_for (passes_of rfl) rfl (pi_tup (pv 1)) (pg_name (i := 2) scis_packing.nd rfl (Or.inl rfl))
      (pss_one (ps_if (pt_not (pt_val (pe_call G_is_tree (hr.mono (by decide)) (by rfl) d.D_is_tree.g d.D_is_tree.F.kp d.D_is_tree.b .nil (passes_call (takes_of rfl rfl rfl rfl) (fun _ _ _ _ h => h)) (pa_cons (pv 0) (pa_cons (pv 2) pa_nil)))))
      (pss_one (ps_ret pe_bl)) pss_nil)))
      (pss_one (ps_ret (pe_call G_share_none (hr.mono (by decide)) (by rfl) d.D_share_none.g d.D_share_none.F.kp d.D_share_none.b .nil pass0 (pa_cons (pv 1) pa_nil))))))), ?_⟩
    obtain ⟨dx, ha⟩ := hn.ob
    refine ⟨_, rfl, _, rfl, Or.inl ⟨⟨a, dx, _, rfl, ha⟩, ?_⟩⟩
    refine ⟨_, rfl, y, _, _, _, _, rfl, .ty _, hy.tyx, kit_tup e, _, rfl, ?_⟩
    have no : isTup e = false → ¬ Packed ls m r e := fun h => by
      rintro ⟨ts, rfl, _⟩
      cases h
    cases hy
    case non => exact iteT (k false H (Same.refl _) ⟨fun z => (nomatch z), fun p => (no rfl p).elim⟩)
    case bl => exact iteT (k false H (Same.refl _) ⟨fun z => (nomatch z), fun p => (no rfl p).elim⟩)
    case int => exact iteT (k false H (Same.refl _) ⟨fun z => (nomatch z), fun p => (no rfl p).elim⟩)
    case str => exact iteT (k false H (Same.refl _) ⟨fun z => (nomatch z), fun p => (no rfl p).elim⟩)
    case lst => exact iteT (k false H (Same.refl _) ⟨fun z => (nomatch z), fun p => (no rfl p).elim⟩)
    case dic => exact iteT (k false H (Same.refl _) ⟨fun z => (nomatch z), fun p => (no rfl p).elim⟩)
    rename_i t us ds ht hs hl
    refine iteF ⟨_, rfl, t, rfl, ⟨_, SqT.of ht⟩, for_tup (K := K) (a := t) (xs := us) (fun i σ2 G => ∃ v2 : Option V, σ2 = [some (.ref a), some (.ref t), v2] ∧ Same H G ∧ ∀ d ∈ ds.take i, Wooded ls m [r] d)
      ⟨none, rfl, Same.refl _, fun d hd => nomatch hd⟩ (fun i σ2 G _ ⟨_, _, s2, _⟩ => SqT.of (s2 _ _ ht)) ?_ ?_⟩
    · rintro i x σ2 G hx ⟨v2, rfl, s2, hw⟩
      obtain ⟨dd, hdd, hth⟩ := hs.get hx
      refine ⟨_, rfl, _, rfl, a, l, m, r, ws, ls, x, dd, rfl, hn.keep s2, hth.keep s2, fun c G2 s3 hc => ⟨_, rfl, ?_⟩⟩
      cases c with
      | false =>
        refine iteT (k false G2 (s2.trans s3) ⟨fun z => (nomatch z), ?_⟩)
        rintro ⟨ts, e2, g, _⟩
        have e3 := PyData.tuple.inj e2
        rw [e3, List.getElem?_map] at hdd
        obtain ⟨zs, hz, rfl⟩ := Option.map_eq_some_iff.mp hdd
        exact (nomatch hc.mpr ⟨zs, rfl, g zs (List.mem_of_getElem? hz)⟩)
      | true =>
        refine iteF ⟨_, rfl, s2.trans s3, fun d hd => ?_⟩
        rw [takeSucc _ hdd] at hd
        rcases List.mem_append.mp hd with q | q
        · exact hw d q
        · rw [List.mem_singleton.mp q]
          exact hc.mp rfl
    · rintro σ2 G ⟨v2, rfl, s2, hw⟩
      rw [hs.length, List.take_length] at hw
      obtain ⟨ts, rfl, hlots, hg⟩ := woodsAt (hs.keep s2) hw
      have m10 := hn.ok.m1
      have hl2 := hs.length
      rw [List.length_map] at hl2
      refine ⟨_, rfl, t, us, ts, rfl, s2 _ _ ht, hlots, ?_, fun c G2 s3 hc => k c G2 (s2.trans s3) (hc.trans ⟨fun nd => ⟨ts, rfl, hg, nd⟩, ?_⟩)⟩
      · have := flatLe (n := 9) (ts := ts) fun zs hz => by
          have h2 : 1 + (zs.length : Int) = m := (hg zs hz).2
          omega
        omega
      · rintro ⟨ts2, e2, _, nd⟩
        rw [lotsInj (PyData.tuple.inj e2)]
        exact nd
end
end K06
namespace K06
open PySem PySem.Spec PyProof.Rows L2 Kv
/-! ### odd things: _law_deep, _law_odd -/
def spDeep : Sp := fun vs H Q _ => ∃ a : Addr, vs = [.ref a] ∧ Hand H a ∧ ∀ v d H2, Same H H2 → Th H2 v d → wdB 2 d = true → Q v H2
def spOdd : Sp := fun vs H Q _ => ∃ (a : Addr) (x : V) (d : PyData) (n : Nat), vs = [.ref a, x] ∧ Hand H a ∧ Th H x d ∧ 2 ≤ n ∧ wdB n d = true ∧ ∀ v d2 H2, Same H H2 → Th H2 v d2 → wdB n d2 = true → Q v H2
theorem retE {te : TE} {D : Ends} {σ : L2.St} {H : Hp} (h : te σ H D.rt) : tRet te D σ H := h
section
variable {P : Program} {w : World} {K : PySem.W.Frag} {mg : Str → Option Value} {base : Heap}
theorem anyW {H : Hp} {a p : Addr} {vs : List V} {ds : List PyData} {n : Nat} {Q : VK} (hH : Hand H a) (hp : H p = some (.lst vs)) (hs : ThAll H vs ds) (hw : ∀ d ∈ ds, wdB n d = true) (h0 : 0 < vs.length) (h1 : vs.length ≤ 1000) (k : ∀ v d, Th H v d → wdB n d = true → Q v H) : spAny K [.ref a, .ref p] H Q E0 :=
  ⟨a, p, vs, rfl, hH, SqL.of hp, h0, by omega, fun r x hx => by
    obtain ⟨d, hd, ht⟩ := hs.get hx
    exact k x d ht (hw d (List.mem_of_getElem? hd))⟩
theorem ok_deep (d : Dn K mg) (B : Bn mg) : FnOk P w K mg base CX0 3 d.f_deep d.fd_deep ["_law_hand_here"] spDeep := by
  have G_draw := ok_draw (P := P) (w := w) (base := base) d B
  have G_any := ok_any (P := P) (w := w) (base := base) d B
  refine d.D_deep.F.ok sc_law_deep (fun vs H Q E h => ?_) (fun cdv A outer s H vs Q E hr h => ?_)
  · obtain ⟨a, rfl, _⟩ := h
    rfl
  · obtain ⟨a, rfl, hH, k⟩ := h
    refine ⟨_, PSs.nox ((pss_cons (ps_set (i := 1) sc_law_deep.nd rfl (Or.inl rfl) (pe_call G_any (hr.mono (by decide)) (by rfl) d.D_any.g d.D_any.F.kp d.D_any.b .nil pass0 (pa_cons (pv 0) (pa_cons (pe_lst (pa_cons pe_int (pa_cons (pe_tup pa_nil) (pa_cons pe_str pa_nil)))) pa_nil))))
      (pss_cons (ps_for PassesOwn.never rfl (pi_range1 (by rfl) B.rng (pa_cons (pe_op op_add pe_int (pe_call G_draw (hr.mono (by decide)) (by rfl) d.D_draw.g d.D_draw.F.kp d.D_draw.b .nil pass0 (pa_cons (pv 0) (pa_cons pe_int pa_nil)))) pa_nil)) (pg_name (i := 2) sc_law_deep.nd rfl (Or.inl rfl))
      (pss_one (ps_set (i := 1) sc_law_deep.nd rfl (Or.inl rfl) (pe_ifExp (pt_cmpR op_gt (pe_call G_draw (hr.mono (by decide)) (by rfl) d.D_draw.g d.D_draw.F.kp d.D_draw.b .nil pass0 (pa_cons (pv 0) (pa_cons pe_int pa_nil))) pe_int (nomark _)) (pe_tup (pa_cons (pv 1) pa_nil)) (pe_lst (pa_cons (pv 1) pa_nil))))))
      (pss_one (ps_ret (pv 1)))))), ?_⟩
    refine ⟨_, rfl, lstOfW (n := 2) (.cons .int (.cons (.tup .nil (by omega)) (.cons .str .nil))) (by decide) fun p vs ds H1 np s1 hp hs hw hn => anyW (hH.keep s1) hp hs hw (by omega) (by omega) fun x0 d0 hd0 hw0 => ?_⟩
    refine ⟨_, rfl, a, 12, rfl, by decide, by decide, hH.keep s1, fun m hm => ⟨18, _, rfl, rfl, ?_⟩⟩
    refine ⟨18 + (m : Int), rfl, by omega, by omega, for_range (lo := 0) (n := (18 + (m : Int)).toNat) (fun i σ2 H2 => ∃ (x : V) (z : Option V) (d : PyData), σ2 = [some (.ref a), some x, z] ∧ Same H H2 ∧ Th H2 x d ∧ wdB 2 d = true) ⟨x0, none, d0, rfl, s1, hd0, hw0⟩ ?_ ?_⟩
    · rintro i σ2 H2 hi ⟨x, z, d, rfl, s2, hd, hw⟩
      refine ⟨_, rfl, a, 3, rfl, by decide, by decide, hH.keep s2, fun r hr => ⟨_, 0, rfl, rfl, _, rfl, ?_⟩⟩
      refine ite2 (fun _ => ?_) (fun _ => ?_)
      · exact ThW.tup (n := 2) (k := 1) (.cons (.var (i := 1) rfl hd hw) .nil) (by decide) (by decide) H2 (Same.refl _) _ fun v dv H3 s3 hv hvw => ⟨v, _, dv, rfl, s2.trans s3, hv, hvw⟩
      · exact ThW.lst (n := 2) (k := 1) (.cons (.var (i := 1) rfl hd hw) .nil) (by decide) (by decide) H2 (Same.refl _) _ fun v dv H3 s3 hv hvw => ⟨v, _, dv, rfl, s2.trans s3, hv, hvw⟩
    · rintro σ2 H2 ⟨x, z, d, rfl, s2, hd, hw⟩
      exact ⟨_, rfl, k x d H2 s2 hd hw⟩
theorem deepE {σ : L2.St} {H : Hp} {a : Addr} (e : σ[0]? = some (some (.ref a))) {n : Nat} (hn : 2 ≤ n) (hH : Hand H a) : ThW n (tCall spDeep [] E0 (tCons (tVar 0) tNil)) σ H := fun H1 s Q k =>
  ⟨_, e, a, rfl, hH.keep s, fun v d H2 s2 hv hw => k v d H2 s2 hv (wdB.up hn d hw)⟩
theorem ok_odd (d : Dn K mg) (B : Bn mg) : FnOk P w K mg base CX0 4 d.f_odd d.fd_odd ["_law_hand_here", "_law_thing"] spOdd := by
  have G_any := ok_any (P := P) (w := w) (base := base) d B
  have G_deep := ok_deep (P := P) (w := w) (base := base) d B
  refine d.D_odd.F.ok sc_law_odd (fun vs H Q E h => ?_) (fun cdv A outer s H vs Q E hr h => ?_)
  · obtain ⟨a, x, dx, n, rfl, _⟩ := h
    rfl
  · obtain ⟨a, x, dx, n, rfl, hH, hx, n2, hxw, k⟩ := h
    refine ⟨_, PSs.nox ((pss_cons (ps_set (i := 2) sc_law_odd.nd rfl (Or.inl rfl) (pe_lst (pa_cons pe_non (pa_cons pe_bl (pa_cons pe_bl (pa_cons pe_int (pa_cons (pe_un un_neg pe_int) (pa_cons pe_str (pa_cons pe_str (pa_cons (pe_tup pa_nil) (pa_cons (pe_lst pa_nil) (pa_cons pe_dnewK (pa_cons (pe_tup (pa_cons pe_int pa_nil)) (pa_cons (pe_tup (pa_cons (pe_tup (pa_cons pe_int (pa_cons pe_int pa_nil))) pa_nil)) (pa_cons (pe_tup (pa_cons pe_non pa_nil)) (pa_cons (pe_op op_pow pe_int pe_int) (pa_cons (pv 1) pa_nil)))))))))))))))))
      (pss_one (ps_ret (pe_call G_any (hr.mono (by decide)) (by rfl) d.D_any.g d.D_any.F.kp d.D_any.b .nil pass0 (pa_cons (pv 0) (pa_cons (pe_op op_cat (pv 2) (pe_lst (pa_cons (pe_call G_deep (hr.mono (by decide)) (by rfl) d.D_deep.g d.D_deep.F.kp d.D_deep.b .nil pass0 (pa_cons (pv 0) pa_nil)) pa_nil))) pa_nil))))))), ?_⟩
    refine asgE (lstOfW (n := n) (k := 15) (.cons .non (.cons .bl (.cons .bl (.cons .int (.cons .neg (.cons .str (.cons .str (.cons (.tup .nil (by omega)) (.cons (.lst .nil (by omega)) (.cons .dic (.cons (.tup (.cons .int .nil) (by omega)) (.cons (.tup (.cons (.tup (.cons .int (.cons .int .nil)) (by omega)) .nil) (by omega)) (.cons (.tup (.cons .non .nil) (by omega)) (.cons (.pow ⟨by decide, by decide, by decide⟩) (.cons (.var rfl hx hxw) .nil)))))))))))))))
      (by decide) fun p vs ds H1 np s1 hp hs hw hn => ?_)
    refine ⟨_, rfl, _, rfl, lstOfW (n := n) (k := 1) (.cons (deepE rfl n2 (hH.keep s1)) .nil) (by decide) fun p2 vs2 ds2 H2 np2 s2 hp2 hs2 hw2 hn2 => ⟨p, p2, vs, vs2, rfl, rfl, s2 _ _ hp, hp2, by rw [hn, hn2]; decide, fun q nq => ?_⟩⟩
    have sq := sameNew (o := HO.lst (vs ++ vs2)) nq
    exact anyW (((hH.keep s1).keep s2).keep sq) upd_same (((hs.keep s2).append hs2).keep sq) (fun d hd => (List.mem_append.mp hd).elim (hw d) (hw2 d)) (by rw [List.length_append]; omega) (by rw [List.length_append]; omega) fun v dv hv hvw => k v dv _ ((s1.trans s2).trans sq) hv hvw
theorem oddE {σ : L2.St} {H : Hp} {a : Addr} {i : Nat} {x : V} {d : PyData} (e : σ[0]? = some (some (.ref a))) (hH : Hand H a) (e2 : σ[i]? = some (some x)) {n : Nat} (hn : 2 ≤ n) (hx : Th H x d) (hw : wdB n d = true) : ThW n (tCall spOdd [] E0 (tCons (tVar 0) (tCons (tVar i) tNil))) σ H := fun H1 s Q k =>
  ⟨_, e, _, e2, a, x, d, n, rfl, hH.keep s, hx.keep s, hn, hw, k⟩
end
end K06
namespace K06
open PySem PySem.Spec PyProof.Rows L2 Kv
/-! ### k06's own: _law_is_lot, _law_reached, _law_is_grown -/
def spIsLotA : Sp := fun vs H Q _ => ∃ (x : V) (e : PyData) (b : Int), vs = [x, .int b] ∧ Th H x e ∧ ∀ H2, Same H H2 → Q (.bl (isLotD e b)) H2
theorem allBt {c : Int} : ∀ {ds : List PyData}, (ds.map fun e => isBt e 0 c).all id = true → ∃ zs : List Int, ds = zs.map PyData.int ∧ ∀ z ∈ zs, 0 ≤ z ∧ z ≤ c
  | [], _ => ⟨[], rfl, fun z hz => nomatch hz⟩
  | d :: ds, h => by
    rw [List.map_cons, List.all_cons, Bool.and_eq_true] at h
    obtain ⟨j, rfl, j0, j1⟩ := isBt_int h.1
    obtain ⟨zs, rfl, hz⟩ := allBt h.2
    refine ⟨j :: zs, rfl, fun z m => ?_⟩
    rcases List.mem_cons.mp m with e | e
    · rw [e]
      exact ⟨j0, j1⟩
    · exact hz z e
theorem btAll {c : Int} {zs : List Int} (h : ∀ z ∈ zs, 0 ≤ z ∧ z ≤ c) : ((zs.map PyData.int).map fun e => isBt e 0 c).all id = true := by
  refine List.all_eq_true.mpr fun b hb => ?_
  obtain ⟨e, he, rfl⟩ := List.mem_map.mp hb
  obtain ⟨z, hz, rfl⟩ := List.mem_map.mp he
  show (decide (0 ≤ z) && decide (z ≤ c)) = true
  rw [decide_eq_true (h z hz).1, decide_eq_true (h z hz).2]
  rfl
/-- each below the next -/
def adjB (zs : List Int) (j : Nat) : Bool := decide (zs.getD j 0 < zs.getD (j + 1) 0)
theorem adjPair : ∀ {zs : List Int}, (∀ j, j < zs.length - 1 → adjB zs j = true) → zs.Pairwise (· < ·)
  | [], _ => .nil
  | [x], _ => by simp
  | x :: y :: t, h => by
    have h0 : x < y := of_decide_eq_true (h 0 (by simp))
    have ih := adjPair (zs := y :: t) fun j hj => h (j + 1) (by
      have e : (x :: y :: t).length = (y :: t).length + 1 := rfl
      omega)
    refine List.pairwise_cons.mpr ⟨fun z hz => ?_, ih⟩
    rcases List.mem_cons.mp hz with e | e
    · rw [e]
      exact h0
    · exact Int.lt_trans h0 ((List.pairwise_cons.mp ih).1 z e)
theorem pairAdj : ∀ {zs : List Int}, zs.Pairwise (· < ·) → ∀ j, j < zs.length - 1 → adjB zs j = true
  | [], _, j, h => by simp at h
  | [x], _, j, h => by simp at h
  | x :: y :: t, p, j, h => by
    obtain ⟨p1, p2⟩ := List.pairwise_cons.mp p
    cases j with
    | zero => exact decide_eq_true (p1 y List.mem_cons_self)
    | succ j => exact pairAdj p2 j (by
        have e : (x :: y :: t).length = (y :: t).length + 1 := rfl
        omega)
theorem lotIs {b : Int} {zs : List Int} (h : ∀ z ∈ zs, 0 ≤ z ∧ z ≤ b - 1) : ((List.range (zs.length - 1)).map (adjB zs)).all id = isLotD (.tuple (zs.map PyData.int)) b := by
  cases hl : isLotD (.tuple (zs.map PyData.int)) b with
  | true =>
    obtain ⟨zs2, e, up, _⟩ := lotInts (show lotAll b 0 (zs.map PyData.int) = true from hl)
    rw [← intsInj e] at up
    refine List.all_eq_true.mpr fun c hc => ?_
    obtain ⟨j, hj, rfl⟩ := List.mem_map.mp hc
    exact pairAdj up j (List.mem_range.mp hj)
  | false =>
    cases hr : ((List.range (zs.length - 1)).map (adjB zs)).all id with
    | false => rfl
    | true =>
      have up := adjPair (zs := zs) fun j hj => List.all_eq_true.mp hr _ (List.mem_map_of_mem (List.mem_range.mpr hj))
      have e : isLotD (.tuple (zs.map PyData.int)) b = true := lotOfInts up fun z hz => by
        have := h z hz
        omega
      rw [hl] at e
      cases e
section
variable {P : Program} {w : World} {K : PySem.W.Frag} {mg : Str → Option Value} {base : Heap}
theorem ok_l_is_lot (d : Dn K mg) (B : Bn mg) : FnOk P w K mg base CX0 3 d.f_l_is_lot d.fd_l_is_lot ["_law_thing", "_law_many"] spIsLotA := by
  have G_is_int := ok_is_int (P := P) (w := w) (base := base) d B
  have G_is_int := G_is_int
  refine d.D_l_is_lot.F.ok sc_law_is_lot (fun vs H Q E h => ?_) (fun cdv A outer s H vs Q E hr h => ?_)
  · obtain ⟨x, e, b, rfl, _⟩ := h
    rfl
  · obtain ⟨x, e, b, rfl, hx, k⟩ := h
    refine ⟨_, PSs.nox ((pss_cons (ps_if (PW.pt (pw_or (pt_not (pt_val (pe_callB call_isi (by rfl) B.isi boot_isinstance (pa_cons (pv 0) (pa_cons (pe_bltn (v := .ty "tuple") (by rfl) B.tup (by decide +kernel) rfl) pa_nil))))) (pw_or1 (pt_not (pt_val (pe_callB (cr_all rfl) (by rfl) B.all boot_all (pa_cons (pe_lc (own := [("_law_one", 2)]) (g := gName 2) (tt := tYes) (te := tCall spIsInt [] E0 (tCons (tVar 2) (tCons (tC (.int 0)) (tCons (tOp (rI0 fun i j => .int (i - j)) (tVar 1) (tC (.int 1))) tNil)))) rfl sc_law_is_lot.nd (pi_tup (pv 0))
        (blkOk_by (N := ["_law_thing", "_law_many", "_law_one", "_law_at"]) (sc := defScope s_law_is_lot) (by decide +kernel)) (fun _ _ _ _ _ => pg_name (i := 2) sc_law_is_lot.nd rfl (Or.inl rfl)) (fun _ _ _ _ _ => pts_nil)
        (fun _ _ _ _ _ => (pe_call G_is_int (hr.mono (by decide)) (by rfl) d.D_is_int.g d.D_is_int.F.kp d.D_is_int.b .nil pass0 (pa_cons (pv 2) (pa_cons pe_int (pa_cons (pe_op op_sub (pv 1) pe_int) pa_nil)))))) pa_nil)))))))
      (pss_one (ps_ret pe_bl)) pss_nil)
      (pss_one (ps_ret (pe_callB (cr_all rfl) (by rfl) B.all boot_all (pa_cons (pe_lc (own := [("_law_at", 3)]) (g := gName 3) (tt := tYes) (te := (tOp (rI0 fun i j => .bl (decide (i < j))) (tOp (rIxT K) (tVar 0) (tVar 3)) (tOp (rIxT K) (tVar 0) (tOp (rI0 fun i j => .int (i + j)) (tVar 3) (tC (.int 1)))))) rfl sc_law_is_lot.nd (pi_range1 (by rfl) B.rng (pa_cons (pe_op op_sub (pe_callB call_len_seq (by rfl) B.len PySem.boot_len (pa_cons (pv 0) pa_nil)) pe_int) pa_nil))
        (blkOk_by (N := ["_law_thing", "_law_many", "_law_one", "_law_at"]) (sc := defScope s_law_is_lot) (by decide +kernel)) (fun _ _ _ _ _ => pg_name (i := 3) sc_law_is_lot.nd rfl (Or.inl rfl)) (fun _ _ _ _ _ => pts_nil)
        (fun _ _ _ _ _ => (pe_cmpR op_lt (pe_ix ix_tup (pv 0) (pv 3) (fun _ _ => rfl)) (pe_ix ix_tup (pv 0) (pe_op op_add (pv 3) pe_int) (fun _ _ => rfl)) (nomark _)))) pa_nil)))))), ?_⟩
    refine ⟨_, rfl, x, _, _, _, _, rfl, .ty _, hx.tyx, kit_tup e, _, rfl, ?_⟩
    have k0 := k H (Same.refl _)
    cases hx with
    | non => exact iteT k0
    | str y => exact iteT k0
    | lst h1 h2 => exact iteT k0
    | dic h1 => exact iteT k0
    | bl b => exact iteT k0
    | int i => exact iteT k0
    | @tup a vs ds ha hs hl =>
      refine iteF ⟨_, rfl, a, rfl, ⟨_, SqT.of ha⟩, fun D nD => lc_tup (K := K) (a := a) (xs := vs) (fun i H2 => Same H H2 ∧ H2 D = some (.lst ((ds.take i).map fun e => V.bl (isBt e 0 (b - 1)))))
        ⟨sameNew nD, upd_same⟩ (fun i H2 _ h6 => SqT.of (h6.1 _ _ ha)) (fun i x H2 hx2 h6 => ?_) (fun H2 h6 => ?_)⟩
      · obtain ⟨s6, hD⟩ := h6
        obtain ⟨e, he, hxe⟩ := hs.get hx2
        refine ⟨rfl, _, rfl, _, rfl, b, 1, rfl, rfl, x, e, 0, b - 1, rfl, hxe.keep s6, _, hD, ?_, samePut s6 nD, ?_⟩
        · rw [List.length_map, List.length_take]
          have := (List.getElem?_eq_some_iff.mp hx2).1
          exact Nat.lt_of_le_of_lt (show _ ≤ 1000 by omega) (by decide)
        · rw [upd_same, takeSucc ds he, List.map_append]
          rfl
      · obtain ⟨s6, hD⟩ := h6
        rw [hs.length, List.take_length] at hD
        have eD : (ds.map fun e => V.bl (isBt e 0 (b - 1))) = (ds.map fun e => isBt e 0 (b - 1)).map V.bl := by rw [List.map_map]; rfl
        rw [eD] at hD
        refine ⟨D, _, rfl, SqL.of hD, _, rfl, ?_⟩
        cases hall : (ds.map fun e => isBt e 0 (b - 1)).all id with
        | false =>
          refine iteT ?_
          have k2 := k H2 s6
          cases hl2 : isLotD (.tuple ds) b with
          | false =>
            rw [hl2] at k2
            exact k2
          | true =>
            obtain ⟨zs, rfl, _, rng⟩ := lotInts (show lotAll b 0 ds = true from hl2)
            rw [btAll fun z hz => by have := rng z hz; omega] at hall
            cases hall
        | true =>
          refine iteF ?_
          obtain ⟨zs, rfl, rng⟩ := allBt hall
          have ev := thInv hs
          subst ev
          have zl : zs.length ≤ 100 := by simpa using hl
          have src := SqT.of (K := K) (s6 _ _ ha)
          refine ⟨_, rfl, a, _, rfl, Or.inr src, _, 1, rfl, rfl, (zs.length : Int) - 1, by rw [List.length_map], by omega, by omega, fun C nC => lc_range (lo := 0) (n := ((zs.length : Int) - 1).toNat) (fun i H3 => Same H2 H3 ∧ H3 C = some (.lst (((List.range i).map (adjB zs)).map V.bl)))
            ⟨sameNew nC, upd_same⟩ (fun i H3 hi h3 => ?_) (fun H3 h3 => ?_)⟩
          · obtain ⟨s3, hC⟩ := h3
            have hi1 : i + 1 < zs.length := by omega
            have a1 : atI (zs.map V.int) (0 + (i : Int)) = some (.int (zs.getD i 0)) := by
              rw [Int.zero_add]
              refine atI_nat ?_
              rw [List.getElem?_map, List.getD_eq_getElem?_getD, List.getElem?_eq_getElem (show i < zs.length by omega)]
              rfl
            have a2 : atI (zs.map V.int) (0 + (i : Int) + 1) = some (.int (zs.getD (i + 1) 0)) := by
              rw [Int.zero_add]
              refine atI_nat (j := i + 1) ?_
              rw [List.getElem?_map, List.getD_eq_getElem?_getD, List.getElem?_eq_getElem hi1]
              rfl
            refine ⟨rfl, _, rfl, _, rfl, a, _, _, _, rfl, rfl, sameT s3 src, a1, _, rfl, _, rfl, _, 1, rfl, rfl, a, _, _, _, rfl, rfl, sameT s3 src, a2, _, _, rfl, rfl, _, hC, ?_, samePut s3 nC, ?_⟩
            · rw [List.length_map, List.length_map, List.length_range]
              exact Nat.lt_of_le_of_lt (show i ≤ 1000 by omega) (by decide)
            · rw [upd_same, List.range_succ, List.map_append, List.map_append]
              rfl
          · obtain ⟨s3, hC⟩ := h3
            have en : ((zs.length : Int) - 1).toNat = zs.length - 1 := by omega
            rw [en] at hC
            refine ⟨C, _, rfl, SqL.of hC, ?_⟩
            rw [lotIs rng]
            exact k H3 (s6.trans s3)
end
end K06
namespace K06
open PySem PySem.Spec PyProof.Rows L2 Kv
/-! ### _law_reached, _law_is_grown, _law_heard, _law_is_tree -/
/-- a list of places heard over zs from r: all, by rounds -/
structure RoundT (st en : Int → Int) (r : Int) (zs hs : List Int) (i : Nat) : Prop where
  nd : hs.Nodup
  rm : r ∈ hs
  rc : ∀ h ∈ hs, Reach st en [r] zs h
  go : (∀ z ∈ zs, st z ∈ hs → en z ∈ hs) ∨ i + 1 ≤ hs.length
/-- within a round that began with hs0, behind k links -/
structure InT (st en : Int → Int) (r : Int) (zs hs0 hs : List Int) (k : Nat) : Prop where
  nd : hs.Nodup
  rm : r ∈ hs
  rc : ∀ h ∈ hs, Reach st en [r] zs h
  go : (hs = hs0 ∧ ∀ z ∈ zs.take k, st z ∈ hs0 → en z ∈ hs0) ∨ (hs0.length + 1 ≤ hs.length ∧ ¬ ∀ z ∈ zs, st z ∈ hs0 → en z ∈ hs0)
theorem InT.stay {st en : Int → Int} {r : Int} {zs hs0 hs : List Int} {k : Nat} {z : Int} (h : InT st en r zs hs0 hs k) (hz : zs[k]? = some z) (no : st z ∈ hs → en z ∈ hs) : InT st en r zs hs0 hs (k + 1) := by
  refine ⟨h.nd, h.rm, h.rc, ?_⟩
  rcases h.go with ⟨e, g⟩ | g
  · subst e
    refine Or.inl ⟨rfl, fun y hy => ?_⟩
    rw [takeSucc zs hz] at hy
    rcases List.mem_append.mp hy with q | q
    · exact g y q
    · rw [List.mem_singleton.mp q]
      exact no
  · exact Or.inr g
theorem InT.more {st en : Int → Int} {r : Int} {zs hs0 hs : List Int} {k : Nat} {z : Int} (h : InT st en r zs hs0 hs k) (hz : zs[k]? = some z) (h1 : st z ∈ hs) (h2 : en z ∉ hs) : InT st en r zs hs0 (hs ++ [en z]) (k + 1) := by
  have zm : z ∈ zs := List.mem_of_getElem? hz
  refine ⟨List.nodup_append.mpr ⟨h.nd, by simp, fun a ha b hb e => ?_⟩, List.mem_append_left _ h.rm, fun y hy => ?_, Or.inr ?_⟩
  · rw [List.mem_singleton.mp hb] at e
    exact h2 (e ▸ ha)
  · rcases List.mem_append.mp hy with q | q
    · exact h.rc y q
    · rw [List.mem_singleton.mp q]
      exact .step (h.rc _ h1) zm
  · rcases h.go with ⟨e, g⟩ | g
    · subst e
      exact ⟨by rw [List.length_append]; exact Nat.le_refl _, fun c => h2 (c z zm h1)⟩
    · exact ⟨by rw [List.length_append]; omega, g.2⟩
theorem InT.done {st en : Int → Int} {r : Int} {zs hs0 hs : List Int} {i : Nat} (R : RoundT st en r zs hs0 i) (h : InT st en r zs hs0 hs zs.length) : RoundT st en r zs hs (i + 1) := by
  refine ⟨h.nd, h.rm, h.rc, ?_⟩
  rcases h.go with ⟨e, g⟩ | ⟨g1, g2⟩
  · subst e
    rw [List.take_length] at g
    exact Or.inl g
  · rcases R.go with c | c
    · exact (g2 c).elim
    · exact Or.inr (by omega)
def spReachedA : Sp := fun vs H Q _ => ∃ (p l t b : Addr) (m r : Int) (ws : List V) (ls : List (Int × Int)) (zs : List Int), vs = [.ref p, .ref t, .ref b] ∧ NetAt H p m r l ws ls ∧ H t = some (.tup (zs.map V.int)) ∧ (∀ z ∈ zs, 0 ≤ z ∧ z < ls.length) ∧ H b = some (.lst [.int r]) ∧
  ∀ (q : Addr) (hs : List Int) (H2 : Hp), H q = none → Same H H2 → H2 q = some (.lst (hs.map V.int)) → AllHeard (stL ls) (enL ls) [r] zs hs → Q (.ref q) H2
def spIsGrownA : Sp := fun vs H Q _ => ∃ (p l : Addr) (m r : Int) (ws : List V) (ls : List (Int × Int)) (x : V) (e : PyData), vs = [.ref p, x] ∧ NetAt H p m r l ws ls ∧ Th H x e ∧ ∀ (c : Bool) H2, Same H H2 → (c = true ↔ Grows ls [r] e) → Q (.bl c) H2
section
variable {P : Program} {w : World} {K : PySem.W.Frag} {mg : Str → Option Value} {base : Heap}
theorem reachIn {m r : Int} {ls : List (Int × Int)} {zs : List Int} (ok : NetR m r ls) (rng : ∀ z ∈ zs, 0 ≤ z ∧ z < ls.length) : ∀ k, Reach (stL ls) (enL ls) [r] zs k → 0 ≤ k ∧ k < m := fun k hk => by
  cases hk with
  | base hb => rw [List.mem_singleton.mp hb]; exact ⟨ok.r0, ok.r1⟩
  | step _ hz =>
    have := endsOf ok (rng _ hz).1 (rng _ hz).2
    exact ⟨this.2.2.1, this.2.2.2.1⟩
theorem ok_reached (d : Dn K mg) (B : Bn mg) : FnOk P w K mg base CX0 1 d.f_reached d.fd_reached ["_law_net", "_law_lot", "_law_places"] spReachedA := by
  refine d.D_reached.F.ok sc_law_reached (fun vs H Q E h => ?_) (fun cdv A outer s H vs Q E hr h => ?_)
  · obtain ⟨p, l, t, b, m, r, ws, ls, zs, rfl, _⟩ := h
    rfl
  · obtain ⟨p, l, t, b, m, r, ws, ls, zs, rfl, hn, ht, rng, hb, k⟩ := h
    refine ⟨_, PSs.nox ((pss_cons (ps_set (i := 3) sc_law_reached.nd rfl (Or.inl rfl) (pe_callTy call_list_of (by rfl) B.lst boot_list (pa_cons (pv 2) pa_nil)))
      (pss_cons (ps_for PassesOwn.never rfl (pi_range1 (by rfl) B.rng (pa_cons (pe_ix ix_tup (pv 0) pe_int (fun _ _ => rfl)) pa_nil)) (pg_name (i := 4) sc_law_reached.nd rfl (Or.inl rfl))
      (pss_one (ps_for PassesOwn.never rfl (pi_tup (pv 1)) (pg_name (i := 5) sc_law_reached.nd rfl (Or.inl rfl))
      (pss_cons (ps_asg (pe_ix ix_tup (pe_ix ix_tup (pv 0) pe_int (fun _ _ => rfl)) (pv 5) (fun _ _ => rfl)) (pg_tup (by rfl) (pgs_cons (pg_name (i := 6) sc_law_reached.nd rfl (Or.inl rfl)) (pgs_cons (pg_name (i := 7) sc_law_reached.nd rfl (Or.inl rfl)) pgs_nil))))
      (pss_one (ps_if (PW.pt (pw_and (pt_cmpR op_in_seq (pv 6) (pv 3) (by rfl)) (pw_and1 (pt_cmpR op_notIn_seq (pv 7) (pv 3) (by rfl)))))
      (pss_one (ps_expr (pe_bm PySem.F.plainAttrs_list PySem.F.slot_list_append PySem.F.type_list_append mt_append (pv 3) (pa_cons (pv 7) pa_nil)))) pss_nil))))))
      (pss_one (ps_ret (pv 3)))))), ?_⟩
    have m10 := hn.ok.m1
    have m02 := hn.ok.m0
    refine ⟨_, rfl, b, _, rfl, Or.inl (SqL.of hb), fun q nq => ?_⟩
    have s0 := sameNew (o := HO.lst [V.int r]) nq
    refine ⟨_, rfl, p, _, 0, _, rfl, rfl, SqT.of (s0 _ _ hn.top), rfl, m, rfl, by omega, by omega, for_range (lo := 0) (n := m.toNat) (fun i σ2 H2 => ∃ (v4 v5 v6 v7 : Option V) (hs : List Int), σ2 = [some (.ref p), some (.ref t), some (.ref b), some (.ref q), v4, v5, v6, v7] ∧ Same H H2 ∧ H2 q = some (.lst (hs.map V.int)) ∧ RoundT (stL ls) (enL ls) r zs hs i)
      ⟨_, _, _, _, [r], rfl, s0, upd_same, by simp, List.mem_cons_self, fun h hh => .base hh, Or.inr (Nat.le_refl _)⟩ ?_ ?_⟩
    · rintro i σ2 H2 hi ⟨v4, v5, v6, v7, hs0, rfl, s2, hq, R⟩
      refine ⟨_, rfl, t, rfl, ⟨_, SqT.of (s2 _ _ ht)⟩, for_tup (K := K) (a := t) (xs := zs.map V.int) (fun j σ3 H3 => ∃ (v5 v6 v7 : Option V) (hs : List Int), σ3 = [some (.ref p), some (.ref t), some (.ref b), some (.ref q), some (.int (0 + (i : Nat))), v5, v6, v7] ∧ Same H H3 ∧ H3 q = some (.lst (hs.map V.int)) ∧ InT (stL ls) (enL ls) r zs hs0 hs j)
        ⟨_, _, _, hs0, rfl, s2, hq, R.nd, R.rm, R.rc, Or.inl ⟨rfl, fun z hz => (by rw [List.take_zero] at hz; exact nomatch hz)⟩⟩ (fun j σ3 H3 _ ⟨_, _, _, _, _, s3, _⟩ => SqT.of (s3 _ _ ht)) ?_ ?_⟩
      · rintro j x σ3 H3 hx ⟨v5, v6, v7, hs, rfl, s3, hq3, N⟩
        rw [List.getElem?_map] at hx
        obtain ⟨z, hz, rfl⟩ := Option.map_eq_some_iff.mp hx
        obtain ⟨z0, z1⟩ := rng z (List.mem_of_getElem? hz)
        have hn4 := hn.keep s3
        obtain ⟨ee, he1, he2⟩ := linkOf hn4.all z0 z1
        have hsl : hs.length ≤ 10 := Nat.le_trans (inRange N.nd fun k hk => reachIn hn.ok rng k (N.rc k hk)) (by omega)
        refine ⟨_, rfl, p, _, 2, _, rfl, rfl, SqT.of hn4.top, rfl, _, rfl, l, ws, z, _, rfl, rfl, SqT.of hn4.at_, he1, ee, _, rfl, SqT.of he2, rfl, _, _, rfl, _, _, rfl, rfl, ?_⟩
        refine ⟨_, rfl, _, rfl, q, _, rfl, Or.inl (SqL.of hq3), rfl, flat_ints _, _, rfl, ?_⟩
        rw [if_neg Bool.false_ne_true, inV_ints]
        cases hc : hs.contains (stL ls z) with
        | false => exact iteF ⟨_, _, _, hs, rfl, s3, hq3, N.stay hz fun hm => (by rw [List.contains_iff_mem.mpr hm] at hc; cases hc)⟩
        | true =>
        refine iteT ⟨_, rfl, _, rfl, q, _, rfl, Or.inl (SqL.of hq3), rfl, flat_ints _, _, rfl, ?_⟩
        rw [if_pos rfl, inV_ints]
        cases hc2 : hs.contains (enL ls z) with
        | true => exact iteF ⟨_, _, _, hs, rfl, s3, hq3, N.stay hz fun _ => List.contains_iff_mem.mp hc2⟩
        | false =>
        refine iteT ⟨_, rfl, Or.inl ⟨rfl, _, SqL.of hq3⟩, _, rfl, q, _, _, rfl, rfl, hq3, ?_, ?_⟩
        · rw [List.length_map]
          exact Nat.lt_of_le_of_lt hsl (by decide)
        · refine ⟨_, _, _, hs ++ [enL ls z], rfl, samePut s3 nq, by rw [upd_same, List.map_append]; rfl, N.more hz (List.contains_iff_mem.mp hc) fun hm => ?_⟩
          rw [List.contains_iff_mem.mpr hm] at hc2
          cases hc2
      · rintro σ3 H3 ⟨v5, v6, v7, hs, rfl, s3, hq3, N⟩
        rw [List.length_map] at N
        exact ⟨_, _, _, _, hs, rfl, s3, hq3, N.done R⟩
    · rintro σ2 H2 ⟨v4, v5, v6, v7, hs, rfl, s2, hq, R⟩
      refine ⟨_, rfl, k q hs H2 nq s2 hq ⟨R.nd, fun b hb => by rw [List.mem_singleton.mp hb]; exact R.rm, ?_, R.rc⟩⟩
      rcases R.go with g | g
      · exact g
      · have h2 := inRange R.nd fun k hk => reachIn hn.ok rng k (R.rc k hk)
        omega
theorem ok_l_is_grown (d : Dn K mg) (B : Bn mg) : FnOk P w K mg base CX0 4 d.f_l_is_grown d.fd_l_is_grown ["_law_net", "_law_thing"] spIsGrownA := by
  have G_l_is_lot := ok_l_is_lot (P := P) (w := w) (base := base) d B
  have G_reached := ok_reached (P := P) (w := w) (base := base) d B
  refine d.D_l_is_grown.F.ok sc_law_is_grown (fun vs H Q E h => ?_) (fun cdv A outer s H vs Q E hr h => ?_)
  · obtain ⟨p, l, m, r, ws, ls, x, e, rfl, _⟩ := h
    rfl
  · obtain ⟨p, l, m, r, ws, ls, x, e, rfl, hn, hx, k⟩ := h
    refine ⟨_, PSs.nox ((pss_cons (ps_if (pt_not (pt_val (pe_call G_l_is_lot (hr.mono (by decide)) (by rfl) d.D_l_is_lot.g d.D_l_is_lot.F.kp d.D_l_is_lot.b .nil pass0 (pa_cons (pv 1) (pa_cons (pe_callB call_len_seq (by rfl) B.len PySem.boot_len (pa_cons (pe_ix ix_tup (pv 0) pe_int (fun _ _ => rfl)) pa_nil)) pa_nil)))))
      (pss_one (ps_ret pe_bl)) pss_nil)
      (pss_cons (ps_setLc (i := 2) (own := [("_law_link_here", 3)]) (g := gName 3) (tt := tYes) (te := (tOp (rIxT K) (tOp (rIxT K) (tOp (rIxT K) (tVar 0) (tC (.int 2))) (tVar 3)) (tC (.int 1)))) rfl sc_law_is_grown.nd rfl rfl (sw_true rfl rfl rfl (by decide +kernel)) (pi_tup (pv 1))
        (blkOk_by (N := ["_law_net", "_law_thing", "_law_ends", "_law_link_here", "_law_heard_here", "_law_end"]) (sc := defScope s_law_is_grown) (by decide +kernel)) (fun _ _ _ _ _ => pg_name (i := 3) sc_law_is_grown.nd rfl (Or.inl rfl)) (fun _ _ _ _ _ => pts_nil)
        (fun _ _ _ _ _ => (pe_ix ix_tup (pe_ix ix_tup (pe_ix ix_tup (pv 0) pe_int (fun _ _ => rfl)) (pv 3) (fun _ _ => rfl)) pe_int (fun _ _ => rfl))))
      (pss_cons (ps_if (PW.pt (pw_or (pt_cmpR op_lt (pe_callB cr_lenS (by rfl) B.len PySem.boot_len (pa_cons (pe_callTy (cr_setI rfl) (by rfl) B.set boot_set (pa_cons (pv 2) pa_nil)) pa_nil)) (pe_callB call_len_seq (by rfl) B.len PySem.boot_len (pa_cons (pv 2) pa_nil)) (nomark _)) (pw_or1 (pt_cmpR op_in_seq (pe_ix ix_tup (pv 0) pe_int (fun _ _ => rfl)) (pv 2) (by rfl)))))
      (pss_one (ps_ret pe_bl)) pss_nil)
      (pss_cons (ps_set (i := 4) sc_law_is_grown.nd rfl (Or.inr rfl) (pe_call G_reached (hr.mono (by decide)) (by rfl) d.D_reached.g d.D_reached.F.kp d.D_reached.b .nil pass0 (pa_cons (pv 0) (pa_cons (pv 1) (pa_cons (pe_lst (pa_cons (pe_ix ix_tup (pv 0) pe_int (fun _ _ => rfl)) pa_nil)) pa_nil)))))
      (pss_one (ps_ret (pe_callB (cr_all rfl) (by rfl) B.all boot_all (pa_cons (pe_lc (own := [("_law_end", 5)]) (g := gName 5) (tt := tYes) (te := (tOp (rIn K false) (tVar 5) (tVar 4))) rfl sc_law_is_grown.nd (pi_list (pv 2))
        (blkOk_by (N := ["_law_net", "_law_thing", "_law_ends", "_law_link_here", "_law_heard_here", "_law_end"]) (sc := defScope s_law_is_grown) (by decide +kernel)) (fun _ _ _ _ _ => pg_name (i := 5) sc_law_is_grown.nd rfl (Or.inl rfl)) (fun _ _ _ _ _ => pts_nil)
        (fun _ _ _ _ _ => (pe_cmpR op_in_seq (pv 5) (pv 4) (by rfl)))) pa_nil))))))))), ?_⟩
    have wl : (ws.length : Int) = ls.length := by rw [hn.wl]
    refine ⟨_, rfl, _, rfl, p, _, 2, _, rfl, rfl, SqT.of hn.top, rfl, l, ws, rfl, Or.inr (SqT.of hn.at_), x, e, _, rfl, hx, fun H1 s1 => ⟨_, rfl, ?_⟩⟩
    have no : ¬ Grows ls [r] e → ∀ H2, Same H H2 → Q (.bl false) H2 := fun g H2 s2 => k false H2 s2 ⟨fun z => (nomatch z), fun z => (g z).elim⟩
    cases hlot : isLotD e (ws.length : Int) with
    | false =>
      refine iteT (no ?_ H1 s1)
      rintro ⟨zs, rfl, g⟩
      have : isLotD (.tuple (zs.map PyData.int)) (ws.length : Int) = true := lotOfInts g.up fun z hz => by
        have := g.rng z hz
        omega
      rw [this] at hlot
      cases hlot
    | true =>
    obtain ⟨t, zs, rfl, rfl, ht0, up, rng0, zl⟩ := lotAt hx hlot
    have ht := s1 _ _ ht0
    have hn1 := hn.keep s1
    have rng : ∀ z ∈ zs, 0 ≤ z ∧ z < ls.length := fun z hz => by have := rng0 z hz; omega
    have only : ∀ zs2, PyData.tuple (zs.map PyData.int) = .tuple (zs2.map PyData.int) → zs2 = zs := fun zs2 e2 => (intsInj (PyData.tuple.inj e2)).symm
    have fl : ∀ l : List Int, l.filter (fun _ => true) = l := fun l => List.filter_eq_self.mpr fun _ _ => rfl
    refine iteF ⟨_, rfl, t, rfl, ⟨_, SqT.of ht⟩, fun D nD => lcI_tup (zs := zs) (fun _ => true) (enL ls) (SqT.of ht) (by omega) nD (fun z hz G sG R kR => kR G (Same.refl _)) (fun z hz _ G sG R kR => ?_) (fun G sG0 hD => ?_)⟩
    · obtain ⟨z0, z1⟩ := rng z hz
      have hn4 := hn1.keep sG
      obtain ⟨ee, he1, he2⟩ := linkOf hn4.all z0 z1
      exact ⟨_, rfl, p, _, 2, _, rfl, rfl, SqT.of hn4.top, rfl, _, rfl, l, ws, z, _, rfl, rfl, SqT.of hn4.at_, he1, ee, _, 1, _, rfl, rfl, SqT.of he2, rfl, kR G (Same.refl _)⟩
    rw [fl] at hD
    have sG := s1.trans sG0
    refine ⟨_, rfl, D, _, rfl, SqL.of hD, by rw [List.length_map]; omega, fun S c nS _ hcard => ⟨S, _, c, rfl, upd_same, ?_⟩⟩
    have sS := sameNew (o := SetO w S (fun j => decide (j ∈ zs.map (enL ls))) c) nS
    refine ⟨_, rfl, D, _, rfl, Or.inl (SqL.of (sS _ _ hD)), _, _, rfl, rfl, _, rfl, ?_⟩
    have sGS := sG.trans sS
    refine ite2 (fun hlt => ?_) (fun hlt => ?_)
    · refine iteT (no ?_ _ sGS)
      rintro ⟨zs2, e2, g⟩
      rw [only zs2 e2] at g
      have e3 : (zs.map (enL ls)).length = c := hcard _ (List.nodup_cons.mp g.nd).2 fun k => Iff.rfl
      rw [List.length_map] at e3
      have h4 := of_decide_eq_true hlt
      rw [List.length_map, List.length_map] at h4
      omega
    have endN : (zs.map (enL ls)).Nodup := by
      obtain ⟨ys, nd, hy⟩ := exNodup (zs.map (enL ls))
      have e3 := hcard ys nd hy
      refine nodupOfAll nd (fun k hk => (hy k).mp hk) ?_
      have h4 : ¬ ((c : Int) < (((zs.map (enL ls)).map V.int).length : Int)) := fun z => hlt (decide_eq_true z)
      rw [List.length_map] at h4
      omega
    have hnS := hn.keep sGS
    refine ⟨_, rfl, p, _, 1, _, rfl, rfl, SqT.of hnS.top, rfl, _, rfl, D, _, rfl, Or.inl (SqL.of (sS _ _ hD)), rfl, flat_ints _, _, rfl, ?_⟩
    rw [if_neg Bool.false_ne_true, inV_ints]
    cases hc : (zs.map (enL ls)).contains r with
    | true =>
      refine iteT (no ?_ _ sGS)
      rintro ⟨zs2, e2, g⟩
      rw [only zs2 e2] at g
      exact (List.nodup_cons.mp g.nd).1 (List.contains_iff_mem.mp hc)
    | false =>
    have rout : r ∉ zs.map (enL ls) := fun hm => by
      rw [List.contains_iff_mem.mpr hm] at hc
      cases hc
    refine iteF ⟨_, rfl, _, rfl, _, rfl, p, _, 1, _, rfl, rfl, SqT.of hnS.top, rfl, (by show 1 ≤ sizeLine; decide), fun A0 nA => ?_⟩
    have sA := sameNew (o := HO.lst [V.int r]) nA
    refine ⟨p, l, t, A0, m, r, ws, ls, zs, rfl, hnS.keep sA, sA _ _ (sS _ _ (sG0 _ _ ht)), rng, upd_same, fun q hs H3 nq s3 hq rd => ?_⟩
    have sAll := (sGS.trans sA).trans s3
    have hD3 := s3 _ _ (sA _ _ (sS _ _ hD))
    refine ⟨_, rfl, D, rfl, ⟨_, SqL.of hD3⟩, fun C nC => lcV_list (zs := zs.map (enL ls)) (fun _ => true) (fun z => .bl (hs.contains z)) (SqL.of hD3) (by rw [List.length_map]; omega) nC (fun z hz G2 sG2 R kR => kR G2 (Same.refl _)) (fun z hz _ G2 sG2 R kR => ?_) (fun G2 sG2 hC => ?_)⟩
    · refine ⟨_, rfl, _, rfl, q, _, rfl, Or.inl (SqL.of (sG2 _ _ hq)), rfl, flat_ints _, ?_⟩
      rw [if_neg Bool.false_ne_true, inV_ints]
      exact kR G2 (Same.refl _)
    · rw [fl] at hC
      have eC : (zs.map (enL ls)).map (fun z => V.bl (hs.contains z)) = ((zs.map (enL ls)).map fun z => hs.contains z).map V.bl := by simp only [List.map_map]; rfl
      rw [eC] at hC
      refine ⟨C, _, rfl, SqL.of hC, k _ G2 (sAll.trans sG2) ?_⟩
      constructor
      · intro hall
        have inn : ∀ z ∈ zs, enL ls z ∈ hs := fun z hz => by
          have h3 := List.all_eq_true.mp hall _ (List.mem_map_of_mem (f := fun z => hs.contains z) (List.mem_map_of_mem (f := enL ls) hz))
          exact List.contains_iff_mem.mp h3
        exact ⟨zs, rfl, up, rng, List.nodup_cons.mpr ⟨rout, endN⟩, fun z hz => rd.mem.mp (inn z hz)⟩
      · rintro ⟨zs2, e2, g⟩
        rw [only zs2 e2] at g
        refine List.all_eq_true.mpr fun b hb => ?_
        obtain ⟨y, hy, rfl⟩ := List.mem_map.mp hb
        obtain ⟨z, hz, rfl⟩ := List.mem_map.mp hy
        exact List.contains_iff_mem.mpr (rd.mem.mpr (g.rc z hz))
end
end K06
namespace K06
open PySem PySem.Spec PyProof.Rows L2 Kv
/-! ### _law_heard, _law_is_tree, _law_is -/
def spHeardA : Sp := fun vs H Q _ => ∃ (p l t : Addr) (m r : Int) (ws : List V) (ls : List (Int × Int)) (zs : List Int), vs = [.ref p, .ref t] ∧ NetAt H p m r l ws ls ∧ H t = some (.tup (zs.map V.int)) ∧ (∀ z ∈ zs, 0 ≤ z ∧ z < ls.length) ∧ zs.length ≤ 100 ∧
  ∀ (q : Addr) (os : List Int) (H2 : Hp), Same H H2 → H2 q = some (.tup (os.map V.int)) → os.Perm (r :: zs.map (enL ls)) → os.Pairwise (· ≤ ·) → Q (.ref q) H2
def spIsTreeA : Sp := fun vs H Q _ => ∃ (p l : Addr) (m r : Int) (ws : List V) (ls : List (Int × Int)) (x : V) (e : PyData), vs = [.ref p, x] ∧ NetAt H p m r l ws ls ∧ Th H x e ∧ ∀ (c : Bool) H2, Same H H2 → (c = true ↔ Wooded ls m [r] e) → Q (.bl c) H2
def spIsR (K : PySem.W.Frag) : Sp := fun vs H Q _ => ∃ (x y : V) (z : Str), vs = [x, y] ∧ Shows K H x z ∧ Shows K H y z ∧ Q (.bl true) H
section
variable {P : Program} {w : World} {K : PySem.W.Frag} {mg : Str → Option Value} {base : Heap}
theorem ok_l_heard (d : Dn K mg) (B : Bn mg) : FnOk P w K mg base CX0 1 d.f_heard d.fd_heard ["_law_net", "_law_grown"] spHeardA := by
  refine d.D_heard.F.ok sc_law_heard (fun vs H Q E h => ?_) (fun cdv A outer s H vs Q E hr h => ?_)
  · obtain ⟨p, l, t, m, r, ws, ls, zs, rfl, _⟩ := h
    rfl
  · obtain ⟨p, l, t, m, r, ws, ls, zs, rfl, hn, ht, rng, zl, k⟩ := h
    refine ⟨_, PSs.nox ((pss_one (ps_ret (pe_callTy call_tuple_of (by rfl) B.tup boot_tuple (pa_cons (pe_callB cr_sortedI (by rfl) B.srt (by decide +kernel) (pa_cons (pe_op op_cat (pe_lst (pa_cons (pe_ix ix_tup (pv 0) pe_int (fun _ _ => rfl)) pa_nil)) (pe_lc (own := [("_law_link_here", 2)]) (g := gName 2) (tt := tYes) (te := (tOp (rIxT K) (tOp (rIxT K) (tOp (rIxT K) (tVar 0) (tC (.int 2))) (tVar 2)) (tC (.int 1)))) rfl sc_law_heard.nd (pi_tup (pv 1))
        (blkOk_by (N := ["_law_net", "_law_grown", "_law_link_here"]) (sc := defScope s_law_heard) (by decide +kernel)) (fun _ _ _ _ _ => pg_name (i := 2) sc_law_heard.nd rfl (Or.inl rfl)) (fun _ _ _ _ _ => pts_nil)
        (fun _ _ _ _ _ => (pe_ix ix_tup (pe_ix ix_tup (pe_ix ix_tup (pv 0) pe_int (fun _ _ => rfl)) (pv 2) (fun _ _ => rfl)) pe_int (fun _ _ => rfl))))) pa_nil)) pa_nil))))), ?_⟩
    have fl : ∀ l : List Int, l.filter (fun _ => true) = l := fun l => List.filter_eq_self.mpr fun _ _ => rfl
    refine ⟨_, rfl, p, _, 1, _, rfl, rfl, SqT.of hn.top, rfl, (by show 1 ≤ sizeLine; decide), fun A0 nA => ?_⟩
    have sA := sameNew (o := HO.lst [V.int r]) nA
    refine ⟨_, rfl, t, rfl, ⟨_, SqT.of (sA _ _ ht)⟩, fun D nD => lcI_tup (zs := zs) (fun _ => true) (enL ls) (SqT.of (sA _ _ ht)) (by omega) nD (fun z hz G sG R kR => kR G (Same.refl _)) (fun z hz _ G sG R kR => ?_) (fun G sG hD => ?_)⟩
    · obtain ⟨z0, z1⟩ := rng z hz
      have hn4 := (hn.keep sA).keep sG
      obtain ⟨ee, he1, he2⟩ := linkOf hn4.all z0 z1
      exact ⟨_, rfl, p, _, 2, _, rfl, rfl, SqT.of hn4.top, rfl, _, rfl, l, ws, z, _, rfl, rfl, SqT.of hn4.at_, he1, ee, _, 1, _, rfl, rfl, SqT.of he2, rfl, kR G (Same.refl _)⟩
    rw [fl] at hD
    refine ⟨A0, D, _, _, rfl, rfl, sG _ _ upd_same, hD, ?_, fun C nC => ?_⟩
    · rw [List.length_map, List.length_map]
      exact Nat.le_trans (show _ ≤ 110 by simp; omega) (by decide)
    have sC := sameNew (o := HO.lst ([V.int r] ++ (zs.map (enL ls)).map V.int)) nC
    refine ⟨C, r :: zs.map (enL ls), rfl, SqL.of upd_same, fun os q hperm hsrt nq => ⟨q, _, rfl, Or.inl ⟨SqL.of upd_same, fun u nu => ?_⟩⟩⟩
    have sq := sameNew (o := HO.lst (os.map V.int)) nq
    have su := sameNew (o := HO.tup (os.map V.int)) nu
    exact k u os _ ((((sA.trans sG).trans sC).trans sq).trans su) upd_same hperm hsrt
theorem ok_l_is_tree (d : Dn K mg) (B : Bn mg) : FnOk P w K mg base CX0 5 d.f_l_is_tree d.fd_l_is_tree ["_law_net", "_law_thing"] spIsTreeA := by
  have G_l_is_grown := ok_l_is_grown (P := P) (w := w) (base := base) d B
  refine d.D_l_is_tree.F.ok sc_law_is_tree (fun vs H Q E h => ?_) (fun cdv A outer s H vs Q E hr h => ?_)
  · obtain ⟨p, l, m, r, ws, ls, x, e, rfl, _⟩ := h
    rfl
  · obtain ⟨p, l, m, r, ws, ls, x, e, rfl, hn, hx, k⟩ := h
    refine ⟨_, PSs.nox ((pss_one (ps_ret (pe_and (pe_call G_l_is_grown (hr.mono (by decide)) (by rfl) d.D_l_is_grown.g d.D_l_is_grown.F.kp d.D_l_is_grown.b .nil pass0 (pa_cons (pv 0) (pa_cons (pv 1) pa_nil))) (pe_one (pe_cmpR op_eq (pe_callB call_len_seq (by rfl) B.len PySem.boot_len (pa_cons (pv 1) pa_nil)) (pe_op op_sub (pe_ix ix_tup (pv 0) pe_int (fun _ _ => rfl)) pe_int) (nomark _))))))), ?_⟩
    refine ⟨_, rfl, _, rfl, p, l, m, r, ws, ls, x, e, rfl, hn, hx, fun c H2 s2 hc => ⟨c, rfl, ?_⟩⟩
    cases c with
    | false =>
      refine iteF (k false H2 s2 ⟨fun z => (nomatch z), ?_⟩)
      rintro ⟨zs, ez, g, _⟩
      exact hc.mpr ⟨zs, ez, g⟩
    | true =>
      obtain ⟨zs, rfl, g⟩ := hc.mp rfl
      obtain ⟨t, ex, ht⟩ : ∃ t, x = .ref t ∧ H t = some (.tup (zs.map V.int)) := by
        cases hx with
        | tup ha hs hl => exact ⟨_, rfl, by rw [← thInv hs]; exact ha⟩
      subst ex
      refine iteT ⟨_, rfl, t, _, rfl, Or.inr (SqT.of (s2 _ _ ht)), _, rfl, p, _, 0, _, rfl, rfl, SqT.of (s2 _ _ hn.top), rfl, m, 1, rfl, rfl, rfl, k _ H2 s2 ?_⟩
      rw [decide_eq_true_iff, List.length_map]
      constructor
      · intro h
        have h2 := V.int.inj h
        exact ⟨zs, rfl, g, by show (1 : Int) + zs.length = m; omega⟩
      · rintro ⟨zs2, e2, _, l2⟩
        have e3 : zs = zs2 := intsInj (PyData.tuple.inj e2)
        rw [← e3] at l2
        have l3 : (1 : Int) + zs.length = m := l2
        congr 1
        omega
theorem ok_isR (d : Dn K mg) (B : Bn mg) : FnG P w K mg base 1 d.f_is d.fd_is ["_law_told", "_law_due"] (spIsR K) := by
  refine okG d.D_is.F sc_law_is (fun vs H Q E h => ?_) (fun cd A outer s H vs Q E hg hr h => ?_)
  · obtain ⟨x, y, z, rfl, _⟩ := h
    rfl
  · obtain ⟨x, y, z, rfl, h1, h2, k⟩ := h
    have hrep := call_reprD (X := cxG P w K mg base ["_law_told", "_law_due"] "_law_is" (defScope s_law_is) d.f_is cd A outer s H E) hg (by have := hr.un; show (A.deeper _).units + 100 < cLine; omega)
    refine ⟨_, ((pss_one (ps_ret (pe_cmpR op_eq (pe_callB hrep (by rfl) B.rep boot_repr (pa_cons (pv 0) pa_nil)) (pe_callB hrep (by rfl) B.rep boot_repr (pa_cons (pv 1) pa_nil)) (nomark _))))), ?_⟩
    refine ⟨_, rfl, x, _, rfl, h1, _, rfl, y, _, rfl, h2, rfl, ?_⟩
    rw [decide_eq_true rfl]
    exact k
end
end K06
namespace K06
open PySem PySem.Spec PyProof.Rows L2 Kv
/-! ### _law_part -/
def spPartA : Sp := fun vs H Q _ => ∃ (a p t l : Addr) (m r : Int) (ws : List V) (ls : List (Int × Int)) (fs : List Int), vs = [.ref a, .ref p, .ref t] ∧ Hand H a ∧ NetAt H p m r l ws ls ∧ H t = some (.tup (fs.map V.int)) ∧ fs.length ≤ 100 ∧ (∀ z ∈ fs, 0 ≤ z ∧ z < ls.length) ∧
  ∀ (q : Addr) (zs : List Int) (H2 : Hp), Same H H2 → H2 q = some (.tup (zs.map V.int)) → (∀ z ∈ zs, z ∈ fs) → zs.length ≤ 10 → Q (.ref q) H2
section
variable {P : Program} {w : World} {K : PySem.W.Frag} {mg : Str → Option Value} {base : Heap}
theorem ok_part (d : Dn K mg) (B : Bn mg) : FnOk P w K mg base CX0 3 d.f_part d.fd_part ["_law_hand_here", "_law_net", "_law_lot"] spPartA := by
  have G_draw := ok_draw (P := P) (w := w) (base := base) d B
  have G_any := ok_any (P := P) (w := w) (base := base) d B
  refine d.D_part.F.ok sc_law_part (fun vs H Q E h => ?_) (fun cdv A outer s H vs Q E hr h => ?_)
  · obtain ⟨a, p, t, l, m, r, ws, ls, fs, rfl, _⟩ := h
    rfl
  · obtain ⟨a, p, t, l, m, r, ws, ls, fs, rfl, hH, hn, ht, fl, fz, k⟩ := h
    refine ⟨_, PSs.nox ((pss_cons (ps_asg (pe_tup (pa_cons (pe_lst pa_nil) (pa_cons (pe_lst (pa_cons (pe_ix ix_tup (pv 1) pe_int (fun _ _ => rfl)) pa_nil)) pa_nil))) (pg_tup (by rfl) (pgs_cons (pg_name (i := 3) sc_law_part.nd rfl (Or.inl rfl)) (pgs_cons (pg_name (i := 4) sc_law_part.nd rfl (Or.inr rfl)) pgs_nil))))
      (pss_cons (ps_for PassesOwn.never rfl (pi_range1 (by rfl) B.rng (pa_cons (pe_call G_draw (hr.mono (by decide)) (by rfl) d.D_draw.g d.D_draw.F.kp d.D_draw.b .nil pass0 (pa_cons (pv 0) (pa_cons (pe_ix ix_tup (pv 1) pe_int (fun _ _ => rfl)) pa_nil))) pa_nil)) (pg_name (i := 5) sc_law_part.nd rfl (Or.inl rfl))
      (pss_cons (ps_setLc (i := 6) (own := [("_law_link_here", 7)]) (g := gName 7) (tt := (tAnd (tTest (tOp (rIn K false) (tOp (rIxT K) (tOp (rIxT K) (tOp (rIxT K) (tVar 1) (tC (.int 2))) (tVar 7)) (tC (.int 0))) (tVar 4))) (tTest (tOp (rIn K true) (tOp (rIxT K) (tOp (rIxT K) (tOp (rIxT K) (tVar 1) (tC (.int 2))) (tVar 7)) (tC (.int 1))) (tVar 4))))) (te := (tVar 7)) rfl sc_law_part.nd rfl rfl (sw_true rfl rfl rfl (by decide +kernel)) (pi_tup (pv 2))
        (blkOk_by (N := ["_law_hand_here", "_law_net", "_law_lot", "_law_grown", "_law_heard_here", "_law_turn", "_law_some", "_law_link_here"]) (sc := defScope s_law_part) (by decide +kernel)) (fun _ _ _ _ _ => pg_name (i := 7) sc_law_part.nd rfl (Or.inl rfl)) (fun _ _ _ _ _ => (pts_one (PW.pt (pw_and (pt_cmpR op_in_seq (pe_ix ix_tup (pe_ix ix_tup (pe_ix ix_tup (pv 1) pe_int (fun _ _ => rfl)) (pv 7) (fun _ _ => rfl)) pe_int (fun _ _ => rfl)) (pv 4) (by rfl)) (pw_and1 (pt_cmpR op_notIn_seq (pe_ix ix_tup (pe_ix ix_tup (pe_ix ix_tup (pv 1) pe_int (fun _ _ => rfl)) (pv 7) (fun _ _ => rfl)) pe_int (fun _ _ => rfl)) (pv 4) (by rfl)))))))
        (fun _ _ _ _ _ => (pv 7)))
      (pss_one (ps_if (pt_cmpR op_gt (pe_callB call_len_seq (by rfl) B.len PySem.boot_len (pa_cons (pv 6) pa_nil)) pe_int (nomark _))
      (pss_cons (ps_expr (pe_bm PySem.F.plainAttrs_list PySem.F.slot_list_append PySem.F.type_list_append mt_append (pv 3) (pa_cons (pe_call G_any (hr.mono (by decide)) (by rfl) d.D_any.g d.D_any.F.kp d.D_any.b .nil pass0 (pa_cons (pv 0) (pa_cons (pv 6) pa_nil))) pa_nil)))
      (pss_one (ps_expr (pe_bm PySem.F.plainAttrs_list PySem.F.slot_list_append PySem.F.type_list_append mt_append (pv 4) (pa_cons (pe_ix ix_tup (pe_ix ix_tup (pe_ix ix_tup (pv 1) pe_int (fun _ _ => rfl)) (pe_ix ix_list (pv 3) (pe_un un_neg pe_int) (fun _ _ => rfl)) (fun _ _ => rfl)) pe_int (fun _ _ => rfl)) pa_nil))))) pss_nil))))
      (pss_one (ps_ret (pe_callTy call_tuple_of (by rfl) B.tup boot_tuple (pa_cons (pe_callB cr_sortedI (by rfl) B.srt (by decide +kernel) (pa_cons (pv 3) pa_nil)) pa_nil))))))), ?_⟩
    have m10 := hn.ok.m1
    have m02 := hn.ok.m0
    refine ⟨(by show 0 ≤ sizeLine; decide), fun fl0 nfl => ?_⟩
    have sF := sameNew (o := HO.lst []) nfl
    refine ⟨_, rfl, p, _, 1, _, rfl, rfl, SqT.of (sF _ _ hn.top), rfl, (by show 1 ≤ sizeLine; decide), fun hl nhl => ⟨(by show 2 ≤ sizeLine; decide), fun tt0 ntt => ?_⟩⟩
    have nfh : fl0 ≠ hl := ne_of_none upd_same nhl
    have nhlH : H hl = none := by
      rw [upd_ne (Ne.symm nfh)] at nhl
      exact nhl
    have s1 : Same H (upd (upd H fl0 (.lst [])) hl (.lst [V.int r])) := samePast sF nhl
    have s1 := s1.trans (sameNew (o := HO.tup [V.ref fl0, V.ref hl]) ntt)
    have h_fl : upd (upd (upd H fl0 (.lst [])) hl (.lst [V.int r])) tt0 (HO.tup [V.ref fl0, V.ref hl]) fl0 = some (.lst (([] : List Int).map V.int)) := (sameNew ntt) _ _ (by
      rw [upd_ne nfh]
      exact upd_same)
    have h_hl : upd (upd (upd H fl0 (.lst [])) hl (.lst [V.int r])) tt0 (HO.tup [V.ref fl0, V.ref hl]) hl = some (.lst (([r] : List Int).map V.int)) := (sameNew ntt) _ _ upd_same
    refine ⟨tt0, _, rfl, SqT.of upd_same, rfl, _, _, rfl, _, _, rfl, rfl, ?_⟩
    refine ⟨_, rfl, _, rfl, p, _, 0, _, rfl, rfl, SqT.of (s1 _ _ hn.top), rfl, a, m, rfl, by omega, by omega, hH.keep s1, fun n hnn => ⟨(n : Int), rfl, by omega, by omega, for_range (lo := 0) (n := (n : Int).toNat) (fun j σ2 H2 => ∃ (v5 v6 v7 : Option V) (f h : List Int), σ2 = [some (.ref a), some (.ref p), some (.ref t), some (.ref fl0), some (.ref hl), v5, v6, v7] ∧ Same H H2 ∧ H2 hl = some (.lst (h.map V.int)) ∧ H2 fl0 = some (.lst (f.map V.int)) ∧ f.length ≤ j ∧ h.length ≤ j + 1 ∧ ∀ z ∈ f, z ∈ fs)
      ⟨_, _, _, [], [r], rfl, s1, h_hl, h_fl, Nat.le_refl _, Nat.le_refl _, fun z hz => (nomatch hz)⟩ ?_ ?_⟩⟩
    · rintro j σ2 H2 hj ⟨v5, v6, v7, f, h, rfl, s3, hh, hf, hlen, hlen2, hin⟩
      have hn3 := hn.keep s3
      have ht3 := s3 _ _ ht
      refine ⟨_, rfl, t, rfl, ⟨_, SqT.of ht3⟩, fun D nD => lcI_tup (zs := fs) (fun z => h.contains (stL ls z) && !h.contains (enL ls z)) (fun z => z) (SqT.of ht3) (by omega) nD (fun z hz G sG R kR => ?_) (fun z hz _ G sG R kR => ⟨_, rfl, kR G (Same.refl _)⟩) (fun G sG hD => ?_)⟩
      · obtain ⟨z0, z1⟩ := fz z hz
        have hn4 := hn3.keep sG
        obtain ⟨e, he1, he2⟩ := linkOf hn4.all z0 z1
        refine ⟨_, rfl, p, _, 2, _, rfl, rfl, SqT.of hn4.top, rfl, _, rfl, l, ws, z, _, rfl, rfl, SqT.of hn4.at_, he1, e, _, 0, _, rfl, rfl, SqT.of he2, rfl, _, rfl, hl, _, rfl, Or.inl (SqL.of (sG _ _ hh)), rfl, flat_ints _, _, rfl, ?_⟩
        rw [if_neg Bool.false_ne_true, inV_ints]
        have kR2 := kR G (Same.refl _)
        cases hc : h.contains (stL ls z) with
        | false =>
          rw [hc] at kR2
          exact iteF kR2
        | true =>
          rw [hc, Bool.true_and] at kR2
          refine iteT ⟨_, rfl, p, _, 2, _, rfl, rfl, SqT.of hn4.top, rfl, _, rfl, l, ws, z, _, rfl, rfl, SqT.of hn4.at_, he1, e, _, 1, _, rfl, rfl, SqT.of he2, rfl, _, rfl, hl, _, rfl, Or.inl (SqL.of (sG _ _ hh)), rfl, flat_ints _, _, rfl, ?_⟩
          rw [if_pos rfl, inV_ints]
          exact kR2
      · rw [List.map_id'] at hD
        generalize hsm : fs.filter (fun z => h.contains (stL ls z) && !h.contains (enL ls z)) = sm at hD
        have sml : sm.length ≤ 100 := by
          rw [← hsm]
          exact Nat.le_trans (List.length_filter_le _ _) fl
        have s4 := s3.trans sG
        refine ⟨_, rfl, D, _, rfl, Or.inl (SqL.of hD), _, 0, rfl, rfl, _, rfl, ite2 (fun hpos => ?_) (fun _ => ?_)⟩
        · have pos : 0 < (sm.map V.int).length := by
            have h1 : (0 : Int) < ((sm.map V.int).length : Int) := of_decide_eq_true hpos
            omega
          have lml : (sm.map V.int).length ≤ 100 := by rw [List.length_map]; exact sml
          refine ⟨_, rfl, Or.inl ⟨rfl, _, SqL.of (sG _ _ hf)⟩, _, rfl, _, rfl, a, D, _, rfl, hH.keep s4, SqL.of hD, pos, by omega, fun q x hx => ?_⟩
          rw [List.getElem?_map] at hx
          obtain ⟨z, hz, rfl⟩ := Option.map_eq_some_iff.mp hx
          have mz : z ∈ fs ∧ (h.contains (stL ls z) && !h.contains (enL ls z)) = true := by
            have := List.mem_of_getElem? hz
            rw [← hsm] at this
            exact List.mem_filter.mp this
          obtain ⟨z0, z1⟩ := fz z mz.1
          refine ⟨fl0, _, .int z, rfl, rfl, sG _ _ hf, ?_, ?_⟩
          · rw [List.length_map]
            exact Nat.lt_of_le_of_lt (show f.length ≤ 60 by omega) (by decide)
          have hf5 : upd G fl0 (.lst (f.map V.int ++ [.int z])) fl0 = some (.lst ((f ++ [z]).map V.int)) := by
            rw [upd_same, List.map_append]
            rfl
          have hh5 : upd G fl0 (.lst (f.map V.int ++ [.int z])) hl = some (.lst (h.map V.int)) := by
            rw [upd_ne (Ne.symm nfh)]
            exact sG _ _ hh
          have s5 : Same H (upd G fl0 (.lst (f.map V.int ++ [.int z]))) := samePut s4 nfl
          have hn5 := hn.keep s5
          obtain ⟨e, he1, he2⟩ := linkOf hn5.all z0 z1
          refine ⟨_, rfl, Or.inl ⟨rfl, _, SqL.of hh5⟩, _, rfl, p, _, 2, _, rfl, rfl, SqT.of hn5.top, rfl, _, rfl, 1, rfl, fl0, _, -1, .int z, rfl, rfl, SqL.of hf5, by rw [List.map_append]; exact atI_last _ _, l, ws, z, _, rfl, rfl, SqT.of hn5.at_, he1, e, _, 1, _, rfl, rfl, SqT.of he2, rfl, hl, _, .int (enL ls z), rfl, rfl, hh5, ?_, ?_⟩
          · rw [List.length_map]
            exact Nat.lt_of_le_of_lt (show h.length ≤ 160 by omega) (by decide)
          refine ⟨_, _, _, f ++ [z], h ++ [enL ls z], rfl, samePut s5 nhlH, ?_, ?_, by rw [List.length_append]; exact Nat.succ_le_succ hlen, by rw [List.length_append]; exact Nat.succ_le_succ hlen2, fun y hy => ?_⟩
          · rw [upd_same, List.map_append]
            rfl
          · rw [upd_ne nfh]
            exact hf5
          · rcases List.mem_append.mp hy with hy | hy
            · exact hin y hy
            · rw [List.mem_singleton.mp hy]
              exact mz.1
        · exact ⟨_, _, _, f, h, rfl, s4, sG _ _ hh, sG _ _ hf, by omega, by omega, hin⟩
    · rintro σ2 H2 ⟨v5, v6, v7, f, h, rfl, s3, hh, hf, hlen, hlen2, hin⟩
      refine ⟨_, rfl, fl0, f, rfl, SqL.of hf, fun zs q hp hs nq => ⟨q, _, rfl, Or.inl ⟨SqL.of upd_same, fun u nu => ?_⟩⟩⟩
      have sq := sameNew (o := HO.lst (zs.map V.int)) nq
      have su := sameNew (o := HO.tup (zs.map V.int)) nu
      refine k u zs _ ((s3.trans sq).trans su) upd_same (fun z hz => hin z (hp.mem_iff.mp hz)) ?_
      rw [hp.length_eq]
      omega
end
end K06
namespace K06
open PySem PySem.Spec PyProof.Rows L2 Kv
/-! ### _law_apart -/
theorem rgV_upTo (n : Nat) : rgV 0 (n : Int) = (Kv.upTo n).map V.int := by
  unfold rgV Kv.upTo
  have e1 : ((n : Int) - 0).toNat = n := by omega
  rw [e1, List.map_map]
  refine List.map_congr_left fun i _ => ?_
  show V.int (0 + (i : Int)) = V.int (i : Int)
  rw [Int.zero_add]
/-- a tuple of few ints below n -/
def TpI (n : Int) (H : Hp) (v : V) : Prop := ∃ (T : Addr) (zs : List Int), v = .ref T ∧ H T = some (.tup (zs.map V.int)) ∧ zs.length ≤ 10 ∧ ∀ z ∈ zs, 0 ≤ z ∧ z < n
theorem TpI.keep {n : Int} {H H2 : Hp} {v : V} (s : Same H H2) (h : TpI n H v) : TpI n H2 v := by
  obtain ⟨T, zs, e, h1, h2⟩ := h
  exact ⟨T, zs, e, s _ _ h1, h2⟩
theorem TpI.put {n : Int} {H : Hp} {v : V} {a : Addr} {xs ys : List V} (ha : H a = some (.lst xs)) (h : TpI n H v) : TpI n (upd H a (.lst ys)) v := by
  obtain ⟨T, zs, e, h1, h2⟩ := h
  refine ⟨T, zs, e, ?_, h2⟩
  rw [upd_ne (fun z => by rw [z, ha] at h1; cases h1)]
  exact h1
theorem tpAll {n : Int} {H : Hp} : ∀ {ws : List V}, (∀ w ∈ ws, TpI n H w) → ∃ ts : List (List Int), ThAll H ws (ts.map fun zs => PyData.tuple (zs.map PyData.int)) ∧ ∀ zs ∈ ts, zs.length ≤ 10 ∧ ∀ z ∈ zs, 0 ≤ z ∧ z < n
  | [], _ => ⟨[], .nil, fun e he => nomatch he⟩
  | w :: ws, h => by
    obtain ⟨T, zs, rfl, hT, h1, h2⟩ := h w List.mem_cons_self
    obtain ⟨ts, k1, k2⟩ := tpAll (ws := ws) fun x hx => h x (List.mem_cons_of_mem _ hx)
    refine ⟨zs :: ts, .cons (.tup hT (thInts zs) (by rw [List.length_map]; omega)) k1, fun e he => ?_⟩
    rcases List.mem_cons.mp he with z | z
    · rw [z]
      exact ⟨h1, h2⟩
    · exact k2 e z
def spApartA : Sp := fun vs H Q _ => ∃ (a p l : Addr) (m r : Int) (ws : List V) (ls : List (Int × Int)), vs = [.ref a, .ref p] ∧ Hand H a ∧ NetAt H p m r l ws ls ∧
  ∀ (q : Addr) (us : List V) (ts : List (List Int)) (H2 : Hp), Same H H2 → H2 q = some (.tup us) → ThAll H2 us (ts.map fun zs => PyData.tuple (zs.map PyData.int)) → ts.length ≤ 5 → (∀ zs ∈ ts, zs.length ≤ 10 ∧ ∀ z ∈ zs, 0 ≤ z ∧ z < ls.length) → Q (.ref q) H2
section
variable {P : Program} {w : World} {K : PySem.W.Frag} {mg : Str → Option Value} {base : Heap}
theorem ok_apart (d : Dn K mg) (B : Bn mg) : FnOk P w K mg base CX0 3 d.f_apart d.fd_apart ["_law_hand_here", "_law_net"] spApartA := by
  have G_draw := ok_draw (P := P) (w := w) (base := base) d B
  have G_any := ok_any (P := P) (w := w) (base := base) d B
  refine d.D_apart.F.ok sc_law_apart (fun vs H Q E h => ?_) (fun cdv A outer s H vs Q E hr h => ?_)
  · obtain ⟨a, p, l, m, r, ws, ls, rfl, _⟩ := h
    rfl
  · obtain ⟨a, p, l, m, r, ws, ls, rfl, hH, hn, k⟩ := h
    refine ⟨_, PSs.nox ((pss_cons (ps_par (i := 2) (j := 3) rfl sc_law_apart.nd rfl rfl (by decide) rfl rfl (pa_cons (pe_listRg rfl (by rfl) B.lst (prg_1 (by rfl) B.rng (pe_callB call_len_seq (by rfl) B.len PySem.boot_len (pa_cons (pe_ix ix_tup (pv 1) pe_int (fun _ _ => rfl)) pa_nil)))) (pa_cons (pe_lst pa_nil) pa_nil)) (by rfl))
      (pss_cons (ps_for PassesOwn.never rfl (pi_range1 (by rfl) B.rng (pa_cons (pe_call G_draw (hr.mono (by decide)) (by rfl) d.D_draw.g d.D_draw.F.kp d.D_draw.b .nil pass0 (pa_cons (pv 0) (pa_cons pe_int pa_nil))) pa_nil)) (pg_name (i := 4) sc_law_apart.nd rfl (Or.inl rfl))
      (pss_cons (ps_asg (pe_tup (pa_cons (pe_lst (pa_cons (pe_ix ix_tup (pv 1) pe_int (fun _ _ => rfl)) pa_nil)) (pa_cons (pe_lst pa_nil) pa_nil))) (pg_tup (by rfl) (pgs_cons (pg_name (i := 5) sc_law_apart.nd rfl (Or.inr rfl)) (pgs_cons (pg_name (i := 6) sc_law_apart.nd rfl (Or.inr rfl)) pgs_nil))))
      (pss_cons (ps_for PassesOwn.never rfl (pi_range1 (by rfl) B.rng (pa_cons (pe_ix ix_tup (pv 1) pe_int (fun _ _ => rfl)) pa_nil)) (pg_name (i := 7) sc_law_apart.nd rfl (Or.inl rfl))
      (pss_cons (ps_setLc (i := 8) (own := [("_law_link_here", 9)]) (g := gName 9) (tt := (tAnd (tTest (tOp (rIn K false) (tOp (rIxT K) (tOp (rIxT K) (tOp (rIxT K) (tVar 1) (tC (.int 2))) (tVar 9)) (tC (.int 0))) (tVar 5))) (tTest (tOp (rIn K true) (tOp (rIxT K) (tOp (rIxT K) (tOp (rIxT K) (tVar 1) (tC (.int 2))) (tVar 9)) (tC (.int 1))) (tVar 5))))) (te := (tVar 9)) rfl sc_law_apart.nd rfl rfl (sw_true rfl rfl rfl (by decide +kernel)) (pi_list (pv 2))
        (blkOk_by (N := ["_law_hand_here", "_law_net", "_law_left", "_law_found", "_law_turn", "_law_heard_here", "_law_tree", "_law_step", "_law_some", "_law_link_here"]) (sc := defScope s_law_apart) (by decide +kernel)) (fun _ _ _ _ _ => pg_name (i := 9) sc_law_apart.nd rfl (Or.inl rfl)) (fun _ _ _ _ _ => (pts_one (PW.pt (pw_and (pt_cmpR op_in_seq (pe_ix ix_tup (pe_ix ix_tup (pe_ix ix_tup (pv 1) pe_int (fun _ _ => rfl)) (pv 9) (fun _ _ => rfl)) pe_int (fun _ _ => rfl)) (pv 5) (by rfl)) (pw_and1 (pt_cmpR op_notIn_seq (pe_ix ix_tup (pe_ix ix_tup (pe_ix ix_tup (pv 1) pe_int (fun _ _ => rfl)) (pv 9) (fun _ _ => rfl)) pe_int (fun _ _ => rfl)) (pv 5) (by rfl)))))))
        (fun _ _ _ _ _ => (pv 9)))
      (pss_one (ps_if (pt_cmpR op_gt (pe_callB call_len_seq (by rfl) B.len PySem.boot_len (pa_cons (pv 8) pa_nil)) pe_int (nomark _))
      (pss_cons (ps_expr (pe_bm PySem.F.plainAttrs_list PySem.F.slot_list_append PySem.F.type_list_append mt_append (pv 6) (pa_cons (pe_call G_any (hr.mono (by decide)) (by rfl) d.D_any.g d.D_any.F.kp d.D_any.b .nil pass0 (pa_cons (pv 0) (pa_cons (pv 8) pa_nil))) pa_nil)))
      (pss_one (ps_expr (pe_bm PySem.F.plainAttrs_list PySem.F.slot_list_append PySem.F.type_list_append mt_append (pv 5) (pa_cons (pe_ix ix_tup (pe_ix ix_tup (pe_ix ix_tup (pv 1) pe_int (fun _ _ => rfl)) (pe_ix ix_list (pv 6) (pe_un un_neg pe_int) (fun _ _ => rfl)) (fun _ _ => rfl)) pe_int (fun _ _ => rfl)) pa_nil))))) pss_nil))))
      (pss_one (ps_if (pt_cmpR op_eq (pe_callB call_len_seq (by rfl) B.len PySem.boot_len (pa_cons (pv 5) pa_nil)) (pe_ix ix_tup (pv 1) pe_int (fun _ _ => rfl)) (nomark _))
      (pss_cons (ps_expr (pe_bm PySem.F.plainAttrs_list PySem.F.slot_list_append PySem.F.type_list_append mt_append (pv 3) (pa_cons (pe_callTy call_tuple_of (by rfl) B.tup boot_tuple (pa_cons (pe_callB cr_sortedI (by rfl) B.srt (by decide +kernel) (pa_cons (pv 6) pa_nil)) pa_nil)) pa_nil)))
      (pss_one (ps_setLc (i := 2) (own := [("_law_link_here", 9)]) (g := gName 9) (tt := (tTest (tOp (rIn K true) (tVar 9) (tVar 6)))) (te := (tVar 9)) rfl sc_law_apart.nd rfl rfl (sw_true rfl rfl rfl (by decide +kernel)) (pi_list (pv 2))
        (blkOk_by (N := ["_law_hand_here", "_law_net", "_law_left", "_law_found", "_law_turn", "_law_heard_here", "_law_tree", "_law_step", "_law_some", "_law_link_here"]) (sc := defScope s_law_apart) (by decide +kernel)) (fun _ _ _ _ _ => pg_name (i := 9) sc_law_apart.nd rfl (Or.inl rfl)) (fun _ _ _ _ _ => (pts_one (pt_cmpR op_notIn_seq (pv 9) (pv 6) (by rfl))))
        (fun _ _ _ _ _ => (pv 9))))) pss_nil)))))
      (pss_one (ps_ret (pe_callTy call_tuple_of (by rfl) B.tup boot_tuple (pa_cons (pv 3) pa_nil))))))), ?_⟩
    have m10 := hn.ok.m1
    have m02 := hn.ok.m0
    have l60 := hn.ok.len
    have wl := hn.wl
    refine ⟨_, rfl, p, _, 2, _, rfl, rfl, SqT.of hn.top, rfl, l, ws, rfl, Or.inr (SqT.of hn.at_), _, rfl, RgOk.of_le (Int.le_refl _) (by omega) (by decide) (by omega), fun fr0 nfr => ?_⟩
    refine ⟨(by show 0 ≤ sizeLine; decide), fun D nD0 => ⟨_, _, rfl, ?_⟩⟩
    have sfr := sameNew (o := HO.lst (rgV 0 ws.length)) nfr
    have nD : H D = none := sfr.free nD0
    have s0 := sfr.trans (sameNew (o := HO.lst []) nD0)
    have hfr0 : upd (upd H fr0 (.lst (rgV 0 ws.length))) D (.lst []) fr0 = some (.lst ((Kv.upTo ls.length).map V.int)) := by
      rw [sameNew nD0 _ _ upd_same, rgV_upTo, wl]
    have ne0 : fr0 ≠ D := ne_of_none upd_same nD0
    refine ⟨_, rfl, a, 5, rfl, by decide, by decide, hH.keep s0, fun n5 hn5 => ⟨(n5 : Int), rfl, by omega, by omega, for_range (lo := 0) (n := (n5 : Int).toNat) (fun i σ2 G => ∃ (v4 v5 v6 v7 v8 v9 : Option V) (fr : Addr) (us : List V) (fs : List Int), σ2 = [some (.ref a), some (.ref p), some (.ref fr), some (.ref D), v4, v5, v6, v7, v8, v9] ∧ Same H G ∧ G D = some (.lst us) ∧ (∀ u ∈ us, TpI ls.length G u) ∧ us.length ≤ i ∧ fr ≠ D ∧ G fr = some (.lst (fs.map V.int)) ∧ fs.length ≤ 60 ∧ ∀ z ∈ fs, 0 ≤ z ∧ z < ls.length)
      ⟨_, _, _, _, _, _, fr0, [], Kv.upTo ls.length, rfl, s0, upd_same, fun u hu => (nomatch hu), Nat.le_refl _, ne0, hfr0, by rw [upTo_len]; omega, fun z hz => upTo_mem.mp hz⟩ ?_ ?_⟩⟩
    · rintro i σ2 G hi ⟨v4, v5, v6, v7, v8, v9, fr, us, fs, rfl, s2, hD, hus, ul, ne, hfr, fl, fz⟩
      have hn2 := hn.keep s2
      refine ⟨_, rfl, p, _, 1, _, rfl, rfl, SqT.of hn2.top, rfl, (by show 1 ≤ sizeLine; decide), fun hl nhl => ⟨(by show 0 ≤ sizeLine; decide), fun tl ntl0 => ⟨(by show 2 ≤ sizeLine; decide), fun tt0 ntt => ?_⟩⟩⟩
      have shl := sameNew (o := HO.lst [V.int r]) nhl
      have ntl : G tl = none := shl.free ntl0
      have nht : hl ≠ tl := ne_of_none upd_same ntl0
      have sG0 := (shl.trans (sameNew (o := HO.lst []) ntl0)).trans (sameNew (o := HO.tup [V.ref hl, V.ref tl]) ntt)
      have h_hl : upd (upd (upd G hl (.lst [V.int r])) tl (.lst [])) tt0 (HO.tup [V.ref hl, V.ref tl]) hl = some (.lst (([r] : List Int).map V.int)) := (sameNew ntt) _ _ (by
        rw [upd_ne nht]
        exact upd_same)
      have h_tl : upd (upd (upd G hl (.lst [V.int r])) tl (.lst [])) tt0 (HO.tup [V.ref hl, V.ref tl]) tl = some (.lst (([] : List Int).map V.int)) := (sameNew ntt) _ _ upd_same
      refine ⟨tt0, _, rfl, SqT.of upd_same, rfl, _, _, rfl, _, _, rfl, rfl, ?_⟩
      refine ⟨_, rfl, p, _, 0, _, rfl, rfl, SqT.of (sG0 _ _ hn2.top), rfl, m, rfl, by omega, by omega, for_range (lo := 0) (n := m.toNat) (fun j σ3 H2 => ∃ (v7 v8 v9 : Option V) (f h : List Int), σ3 = [some (.ref a), some (.ref p), some (.ref fr), some (.ref D), some (.int (0 + (i : Nat))), some (.ref hl), some (.ref tl), v7, v8, v9] ∧ Same G H2 ∧ H2 hl = some (.lst (h.map V.int)) ∧ H2 tl = some (.lst (f.map V.int)) ∧ f.length ≤ j ∧ h.length ≤ j + 1 ∧ ∀ z ∈ f, z ∈ fs)
        ⟨_, _, _, [], [r], rfl, sG0, h_hl, h_tl, Nat.le_refl _, Nat.le_refl _, fun z hz => (nomatch hz)⟩ ?_ ?_⟩
      · rintro j σ3 H2 hj ⟨v7, v8, v9, f, h, rfl, s3, hh, hf, hlen, hlen2, hin⟩
        have hn3 := hn2.keep s3
        have hfr3 := s3 _ _ hfr
        refine ⟨_, rfl, fr, rfl, ⟨_, SqL.of hfr3⟩, fun D2 nD2 => lcI_list (zs := fs) (fun z => h.contains (stL ls z) && !h.contains (enL ls z)) (fun z => z) (SqL.of hfr3) (by omega) nD2 (fun z hz G2 sG R kR => ?_) (fun z hz _ G2 sG R kR => ⟨_, rfl, kR G2 (Same.refl _)⟩) (fun G2 sG hD2 => ?_)⟩
        · obtain ⟨z0, z1⟩ := fz z hz
          have hn4 := hn3.keep sG
          obtain ⟨e, he1, he2⟩ := linkOf hn4.all z0 z1
          refine ⟨_, rfl, p, _, 2, _, rfl, rfl, SqT.of hn4.top, rfl, _, rfl, l, ws, z, _, rfl, rfl, SqT.of hn4.at_, he1, e, _, 0, _, rfl, rfl, SqT.of he2, rfl, _, rfl, hl, _, rfl, Or.inl (SqL.of (sG _ _ hh)), rfl, flat_ints _, _, rfl, ?_⟩
          rw [if_neg Bool.false_ne_true, inV_ints]
          have kR2 := kR G2 (Same.refl _)
          cases hc : h.contains (stL ls z) with
          | false =>
            rw [hc] at kR2
            exact iteF kR2
          | true =>
            rw [hc, Bool.true_and] at kR2
            refine iteT ⟨_, rfl, p, _, 2, _, rfl, rfl, SqT.of hn4.top, rfl, _, rfl, l, ws, z, _, rfl, rfl, SqT.of hn4.at_, he1, e, _, 1, _, rfl, rfl, SqT.of he2, rfl, _, rfl, hl, _, rfl, Or.inl (SqL.of (sG _ _ hh)), rfl, flat_ints _, _, rfl, ?_⟩
            rw [if_pos rfl, inV_ints]
            exact kR2
        · rw [List.map_id'] at hD2
          generalize hsm : fs.filter (fun z => h.contains (stL ls z) && !h.contains (enL ls z)) = sm at hD2
          have sml : sm.length ≤ 100 := by
            rw [← hsm]
            exact Nat.le_trans (List.length_filter_le _ _) (by omega)
          have s4 := s3.trans sG
          refine ⟨_, rfl, D2, _, rfl, Or.inl (SqL.of hD2), _, 0, rfl, rfl, _, rfl, ite2 (fun hpos => ?_) (fun _ => ?_)⟩
          · have pos : 0 < (sm.map V.int).length := by
              have h1 : (0 : Int) < ((sm.map V.int).length : Int) := of_decide_eq_true hpos
              omega
            have lml : (sm.map V.int).length ≤ 100 := by rw [List.length_map]; exact sml
            refine ⟨_, rfl, Or.inl ⟨rfl, _, SqL.of (sG _ _ hf)⟩, _, rfl, _, rfl, a, D2, _, rfl, hH.keep (s2.trans s4), SqL.of hD2, pos, by omega, fun q x hx => ?_⟩
            rw [List.getElem?_map] at hx
            obtain ⟨z, hz, rfl⟩ := Option.map_eq_some_iff.mp hx
            have mz : z ∈ fs := by
              have := List.mem_of_getElem? hz
              rw [← hsm] at this
              exact (List.mem_filter.mp this).1
            obtain ⟨z0, z1⟩ := fz z mz
            refine ⟨tl, _, .int z, rfl, rfl, sG _ _ hf, ?_, ?_⟩
            · rw [List.length_map]
              exact Nat.lt_of_le_of_lt (show f.length ≤ 60 by omega) (by decide)
            have hf5 : upd G2 tl (.lst (f.map V.int ++ [.int z])) tl = some (.lst ((f ++ [z]).map V.int)) := by
              rw [upd_same, List.map_append]
              rfl
            have hh5 : upd G2 tl (.lst (f.map V.int ++ [.int z])) hl = some (.lst (h.map V.int)) := by
              rw [upd_ne nht]
              exact sG _ _ hh
            have s5 : Same G (upd G2 tl (.lst (f.map V.int ++ [.int z]))) := samePut s4 ntl
            have hn5 := hn2.keep s5
            obtain ⟨e, he1, he2⟩ := linkOf hn5.all z0 z1
            refine ⟨_, rfl, Or.inl ⟨rfl, _, SqL.of hh5⟩, _, rfl, p, _, 2, _, rfl, rfl, SqT.of hn5.top, rfl, _, rfl, 1, rfl, tl, _, -1, .int z, rfl, rfl, SqL.of hf5, by rw [List.map_append]; exact atI_last _ _, l, ws, z, _, rfl, rfl, SqT.of hn5.at_, he1, e, _, 1, _, rfl, rfl, SqT.of he2, rfl, hl, _, .int (enL ls z), rfl, rfl, hh5, ?_, ?_⟩
            · rw [List.length_map]
              exact Nat.lt_of_le_of_lt (show h.length ≤ 160 by omega) (by decide)
            refine ⟨_, _, _, f ++ [z], h ++ [enL ls z], rfl, samePut s5 nhl, ?_, ?_, by rw [List.length_append]; exact Nat.succ_le_succ hlen, by rw [List.length_append]; exact Nat.succ_le_succ hlen2, fun y hy => ?_⟩
            · rw [upd_same, List.map_append]
              rfl
            · rw [upd_ne (Ne.symm nht)]
              exact hf5
            · rcases List.mem_append.mp hy with hy | hy
              · exact hin y hy
              · rw [List.mem_singleton.mp hy]
                exact mz
          · exact ⟨_, _, _, f, h, rfl, s4, sG _ _ hh, sG _ _ hf, by omega, by omega, hin⟩
      · rintro σ3 H2 ⟨v7, v8, v9, f, h, rfl, s3, hh, hf, hlen, hlen2, hin⟩
        have s23 := s2.trans s3
        have hn3 := hn2.keep s3
        have hD3 := s3 _ _ hD
        have hfr3 := s3 _ _ hfr
        refine ⟨_, rfl, hl, _, rfl, Or.inl (SqL.of hh), _, rfl, p, _, 0, _, rfl, rfl, SqT.of hn3.top, rfl, rfl, _, rfl, ?_⟩
        refine ite2 (fun _ => ?_) (fun _ => ⟨_, _, _, _, _, _, fr, us, fs, rfl, s23, hD3, fun u hu => (hus u hu).keep s3, by omega, ne, hfr3, fl, fz⟩)
        refine ⟨_, rfl, Or.inl ⟨rfl, _, SqL.of hD3⟩, _, rfl, tl, f, rfl, SqL.of hf, fun zs q hp hs nq => ⟨q, _, rfl, Or.inl ⟨SqL.of upd_same, fun t nt => ?_⟩⟩⟩
        have sq := sameNew (o := HO.lst (zs.map V.int)) nq
        have st := sameNew (o := HO.tup (zs.map V.int)) nt
        have sqt := sq.trans st
        have hD4 := sqt _ _ hD3
        refine ⟨D, us, .ref t, rfl, rfl, hD4, Nat.lt_of_le_of_lt (show us.length ≤ 10 by omega) (by decide), ?_⟩
        obtain ⟨G3, hG3⟩ : ∃ G3, G3 = upd (upd H2 q (.lst (zs.map V.int))) t (.tup (zs.map V.int)) := ⟨_, rfl⟩
        have ht3 : G3 t = some (.tup (zs.map V.int)) := by rw [hG3]; exact upd_same
        have s33 : Same H2 G3 := by rw [hG3]; exact sqt
        rw [← hG3] at hD4 ⊢
        have tpt : TpI ls.length G3 (.ref t) := ⟨t, zs, rfl, ht3, by rw [hp.length_eq]; omega, fun z hz => fz z (hin z (hp.mem_iff.mp hz))⟩
        have nt2 : t ≠ D := fun e => by rw [e, hD4] at ht3; cases ht3
        have s4 : Same H (upd G3 D (.lst (us ++ [.ref t]))) := samePut (s23.trans s33) nD
        have ht4 : upd G3 D (.lst (us ++ [.ref t])) t = some (.tup (zs.map V.int)) := by rw [upd_ne nt2]; exact ht3
        have hf4 : upd G3 D (.lst (us ++ [.ref t])) tl = some (.lst (f.map V.int)) := by
          rw [upd_ne (fun e => by rw [e, hD] at ntl; cases ntl)]
          exact s33 _ _ hf
        have hfr4 : upd G3 D (.lst (us ++ [.ref t])) fr = some (.lst (fs.map V.int)) := by rw [upd_ne ne]; exact s33 _ _ hfr3
        have hus4 : ∀ u ∈ us ++ [.ref t], TpI ls.length (upd G3 D (.lst (us ++ [.ref t]))) u := fun u hu => by
          rcases List.mem_append.mp hu with q | q
          · exact (((hus u q).keep s3).keep s33).put hD4
          · rw [List.mem_singleton.mp q]
            exact tpt.put hD4
        have hD5 : upd G3 D (.lst (us ++ [.ref t])) D = some (.lst (us ++ [.ref t])) := upd_same
        obtain ⟨G4, hG4⟩ : ∃ G4, G4 = upd G3 D (.lst (us ++ [.ref t])) := ⟨_, rfl⟩
        rw [← hG4] at s4 ht4 hf4 hfr4 hus4 hD5 ⊢
        refine ⟨_, rfl, fr, rfl, ⟨_, SqL.of hfr4⟩, fun D1 nD1 => lcI_list (zs := fs) (fun z => !f.contains z) (fun z => z) (SqL.of hfr4) (by omega) nD1 (fun z hz G5 sG R kR => ?_) (fun z hz _ G5 sG R kR => ⟨_, rfl, kR G5 (Same.refl _)⟩) (fun G5 sG hD1 => ?_)⟩
        · refine ⟨_, rfl, _, rfl, tl, _, rfl, Or.inl (SqL.of (sG _ _ hf4)), rfl, flat_ints _, _, rfl, ?_⟩
          rw [if_pos rfl, inV_ints]
          exact kR G5 (Same.refl _)
        · rw [List.map_id'] at hD1
          exact ⟨_, _, _, _, _, _, D1, us ++ [.ref t], fs.filter (fun z => !f.contains z), rfl, s4.trans sG, sG _ _ hD5, fun u hu => (hus4 u hu).keep sG, by rw [List.length_append]; exact Nat.succ_le_succ ul, (ne_of_none hD5 nD1).symm, hD1, Nat.le_trans (List.length_filter_le _ _) fl, fun z hz => fz z (List.mem_filter.mp hz).1⟩
    · rintro σ2 G ⟨v4, v5, v6, v7, v8, v9, fr, us, fs, rfl, s2, hD, hus, ul, ne, hfr, fl, fz⟩
      refine ⟨_, rfl, D, _, rfl, Or.inl ⟨SqL.of hD, fun u nu => ?_⟩⟩
      have su := sameNew (o := HO.tup us) nu
      obtain ⟨ts, hall, hts⟩ := tpAll fun x hx => (hus x hx).keep su
      have tl5 : ts.length ≤ 5 := by
        have h1 := hall.length
        rw [List.length_map] at h1
        omega
      exact k u us ts _ (s2.trans su) upd_same hall tl5 hts
end
end K06
namespace K06
open PySem PySem.Spec PyProof.Rows L2 Kv
/-! ### _law_heard_word -/
structure T06 (K : PySem.W.Frag) (mg : Str → Option Value) : Prop where
  XG : XcK K mg "NoGrown"
  gT : mg "TreeError" = some (.ref (He.ga K "TreeError"))
  er : errB K (He.ga K "NoGrown") = true
  kT : PySem.W.kitOne K (.ref (He.ga K "NoGrown")) (.ref (He.ga K "TreeError")) = some true
  ex : PySem.W.exmOne K (.ref (He.ga K "NoGrown")) (.ref (He.ga K "NoGrown")) = some true
def spHeardW (C : Addr) : Sp := fun vs H Q _ => ∃ (a l : Addr) (m r : Int) (ws : List V) (ls : List (Int × Int)) (y : V) (e : PyData), vs = [.ref a, y] ∧ NetO C H a l m r ws ls ∧ Th H y e ∧ (¬ Grows ls [r] e → ∀ H2, Same H H2 → Q (.str "none") H2) ∧
  ∀ zs : List Int, e = .tuple (zs.map PyData.int) → GrowsI ls [r] zs → ∀ (p : Addr) (hs : List Int) (H2 : Hp), Same H H2 → H2 p = some (.tup (hs.map V.int)) → hs.Pairwise (· < ·) → (∀ k, k ∈ hs ↔ Reach (stL ls) (enL ls) [r] zs k) → (∀ h ∈ hs, 0 ≤ h ∧ h < m) → Q (.ref p) H2
section
variable {P : Program} {w : World} {K : PySem.W.Frag} {mg : Str → Option Value} {base : Heap}
theorem ok_heard_word (d : Dn K mg) (B : Bn mg) (N : Nk K mg d) (T : T06 K mg) : FnOk P w K mg base CX0 12 d.f_heard_word d.fd_heard_word ["_law_made_here", "_law_thing"] (spHeardW (He.ga K "Net")) := by
  have G_heard_by := ok_heard_by (P := P) (w := w) (base := base) d B N T.XG
  refine d.D_heard_word.F.ok sc_law_heard_word (fun vs H Q E h => ?_) (fun cdv A outer s H vs Q E hr h => ?_)
  · obtain ⟨a, l, m, r, ws, ls, y, e, rfl, _⟩ := h
    rfl
  · obtain ⟨a, l, m, r, ws, ls, y, e, rfl, hn, hy, k1, k2⟩ := h
    refine ⟨_, PSs.nox (pss_cons (ps_set (i := 2) sc_law_heard_word.nd rfl (Or.inl rfl) pe_str)
      (pss_cons (ps_try_as (i := 3) (Wout := fun _ _ _ _ => False) rfl rfl sc_law_heard_word.nd rfl rfl ⟨by rfl, by decide, Or.inl T.XG.g⟩ takes0
        (fun W pn xe tk po => pss_one (ps_set (i := 2) sc_law_heard_word.nd rfl (Or.inl rfl) (pe_callS G_heard_by (hr.mono (by decide)) (by rfl) d.D_heard_by.g d.D_heard_by.F.kp d.D_heard_by.b (fun σ => passAt tk σ) (pa_cons (pv 0) (pa_cons (pv 1) pa_nil)))))
        (fun a oe cls dd pn hz hf => pss_one (ps_if (pt_val (pe_callB (r := rIsC K a cls dd) (call_isC hz hf) (by rfl) B.isi boot_isinstance (pa_cons (pv 3) (pa_cons (pe_glob (v := .ref (He.ga K "TreeError")) (by rfl) T.gT rfl) pa_nil)))) (pss_one (ps_set (i := 2) sc_law_heard_word.nd rfl (Or.inl rfl) pe_str)) pss_nil)))
      (pss_one (ps_ret (pv 2))))), ?_⟩
    refine ⟨_, rfl, _, rfl, .ref a, y, rfl, Or.inl ⟨a, l, m, r, ws, ls, e, rfl, hn, hy, fun no H2 s2 => ?_, fun zs ez g p hs H2 s2 hp up mem rg => ?_⟩⟩
    · refine ⟨true, T.ex, fun _ er ner => ?_, fun zz => nomatch zz⟩
      refine ⟨_, rfl, He.ga K "NoGrown", _, _, true, ⟨rfl, T.er, Or.inl rfl⟩, rfl, .own _, T.kT, ?_⟩
      exact ⟨true, rfl, iteT ⟨_, rfl, k1 no H2 s2⟩⟩
    · exact ⟨_, rfl, k2 zs ez g p hs H2 s2 hp up mem rg⟩
end
end K06
namespace K06
open PySem PySem.Spec PyProof.Rows L2 Kv
/-! ### _law_is_packing -/
theorem lstsMk {K : PySem.W.Frag} {H : Hp} : ∀ {xs : List V} {ts : List (List Int)}, xs.length = ts.length → (∀ (i : Nat) (x : V), xs[i]? = some x → ∃ (T : Addr) (l : List Int), x = .ref T ∧ ts[i]? = some l ∧ H T = some (.lst (l.map V.int))) → LstsAt K H xs ts
  | [], [], _, _ => trivial
  | [], _ :: _, e, _ => by cases e
  | _ :: _, [], e, _ => by cases e
  | x :: xs, t :: ts, e, h => by
    refine ⟨?_, lstsMk (Nat.succ.inj e) fun i y hy => h (i + 1) y hy⟩
    obtain ⟨T, l, e1, e2, e3⟩ := h 0 x rfl
    cases (show t = l from Option.some.inj e2)
    exact ⟨T, e1, e3⟩
def spIsPackingA : Sp := fun vs H Q _ => ∃ (p l : Addr) (m r : Int) (ws : List V) (ls : List (Int × Int)) (x : V) (e : PyData), vs = [.ref p, x] ∧ NetAt H p m r l ws ls ∧ Th H x e ∧ ∀ (c : Bool) H2, Same H H2 → (c = true ↔ Packed ls m r e) → Q (.bl c) H2
section
variable {P : Program} {w : World} {K : PySem.W.Frag} {mg : Str → Option Value} {base : Heap}
theorem ok_l_is_packing (d : Dn K mg) (B : Bn mg) : FnOk P w K mg base CX0 6 d.f_l_is_packing d.fd_l_is_packing ["_law_net", "_law_thing"] spIsPackingA := by
  have G_l_is_tree := ok_l_is_tree (P := P) (w := w) (base := base) d B
  refine d.D_l_is_packing.F.ok sc_law_is_packing (fun vs H Q E h => ?_) (fun cdv A outer s H vs Q E hr h => ?_)
  · obtain ⟨p, l, m, r, ws, ls, x, e, rfl, _⟩ := h
    rfl
  · obtain ⟨p, l, m, r, ws, ls, x, e, rfl, hn, hx, k⟩ := h
    refine ⟨_, PSs.nox ((pss_cons (ps_if (PW.pt (pw_or (pt_not (pt_val (pe_callB call_isi (by rfl) B.isi boot_isinstance (pa_cons (pv 1) (pa_cons (pe_bltn (v := .ty "tuple") (by rfl) B.tup (by decide +kernel) rfl) pa_nil))))) (pw_or1 (pt_not (pt_val (pe_callB (cr_all rfl) (by rfl) B.all boot_all (pa_cons (pe_lc (own := [("_law_tree", 2)]) (g := gName 2) (tt := tYes) (te := (tCall spIsTreeA [] E0 (tCons (tVar 0) (tCons (tVar 2) tNil)))) rfl sc_law_is_packing.nd (pi_tup (pv 1))
        (blkOk_by (N := ["_law_net", "_law_thing", "_law_tree", "_law_links"]) (sc := defScope s_law_is_packing) (by decide +kernel)) (fun _ _ _ _ _ => pg_name (i := 2) sc_law_is_packing.nd rfl (Or.inl rfl)) (fun _ _ _ _ _ => pts_nil)
        (fun _ _ _ _ _ => (pe_call G_l_is_tree (hr.mono (by decide)) (by rfl) d.D_l_is_tree.g d.D_l_is_tree.F.kp d.D_l_is_tree.b .nil pass0 (pa_cons (pv 0) (pa_cons (pv 2) pa_nil))))) pa_nil)))))))
      (pss_one (ps_ret pe_bl)) pss_nil)
      (pss_cons (ps_set (i := 3) sc_law_is_packing.nd rfl (Or.inl rfl) (pe_callB (cr_sumL rfl) (by rfl) B.sum boot_sum (pa_cons (pe_lc (own := [("_law_tree", 2)]) (g := gName 2) (tt := tYes) (te := (tCB (fun xs H Q => ∃ p ys, xs = [V.ref p] ∧ (SqL K H p ys ∨ SqT K H p ys) ∧ ∀ l : Addr, H l = none → Q (V.ref l) (upd H l (HO.lst ys))) (tCons (tVar 2) tNil))) rfl sc_law_is_packing.nd (pi_tup (pv 1))
        (blkOk_by (N := ["_law_net", "_law_thing", "_law_tree", "_law_links"]) (sc := defScope s_law_is_packing) (by decide +kernel)) (fun _ _ _ _ _ => pg_name (i := 2) sc_law_is_packing.nd rfl (Or.inl rfl)) (fun _ _ _ _ _ => pts_nil)
        (fun _ _ _ _ _ => (pe_callTy call_list_of (by rfl) B.lst boot_list (pa_cons (pv 2) pa_nil)))) (pa_cons (pe_lst pa_nil) pa_nil))))
      (pss_one (ps_ret (pe_cmpR op_eq (pe_callB cr_lenS (by rfl) B.len PySem.boot_len (pa_cons (pe_callTy (cr_setI rfl) (by rfl) B.set boot_set (pa_cons (pv 3) pa_nil)) pa_nil)) (pe_callB call_len_seq (by rfl) B.len PySem.boot_len (pa_cons (pv 3) pa_nil)) (nomark _))))))), ?_⟩
    refine ⟨_, rfl, x, _, _, _, _, rfl, .ty _, hx.tyx, kit_tup e, _, rfl, ?_⟩
    have no : isTup e = false → ¬ Packed ls m r e := fun h => by
      rintro ⟨ts, rfl, _⟩
      cases h
    cases hx
    case non => exact iteT (iteT (k false H (Same.refl _) ⟨fun z => (nomatch z), fun p => (no rfl p).elim⟩))
    case bl => exact iteT (iteT (k false H (Same.refl _) ⟨fun z => (nomatch z), fun p => (no rfl p).elim⟩))
    case int => exact iteT (iteT (k false H (Same.refl _) ⟨fun z => (nomatch z), fun p => (no rfl p).elim⟩))
    case str => exact iteT (iteT (k false H (Same.refl _) ⟨fun z => (nomatch z), fun p => (no rfl p).elim⟩))
    case lst => exact iteT (iteT (k false H (Same.refl _) ⟨fun z => (nomatch z), fun p => (no rfl p).elim⟩))
    case dic => exact iteT (iteT (k false H (Same.refl _) ⟨fun z => (nomatch z), fun p => (no rfl p).elim⟩))
    rename_i t us ds ht hs hl
    refine iteF ⟨_, rfl, t, rfl, ⟨_, SqT.of ht⟩, fun D nD => lc_tup (K := K) (a := t) (xs := us) (fun i G => Same H G ∧ ∃ cs : List Bool, G D = some (.lst (cs.map V.bl)) ∧ cs.length = i ∧ (cs.all id = true ↔ ∀ d ∈ ds.take i, Wooded ls m [r] d))
      ⟨sameNew nD, [], upd_same, rfl, ⟨fun _ d hd => (nomatch hd), fun _ => rfl⟩⟩ (fun i G _ h => SqT.of (h.1 _ _ ht)) (fun i x G hx h => ?_) (fun G h => ?_)⟩
    · obtain ⟨s2, cs, hD, cl, hc⟩ := h
      obtain ⟨dd, hdd, hth⟩ := hs.get hx
      have hn2 := hn.keep s2
      have hi : i < us.length := (List.getElem?_eq_some_iff.mp hx).1
      refine ⟨rfl, _, rfl, _, rfl, p, l, m, r, ws, ls, x, dd, rfl, hn2, hth.keep s2, fun c G2 s3 hc3 => ⟨_, s3 _ _ hD, ?_, samePut (s2.trans s3) nD, cs ++ [c], by rw [upd_same, List.map_append]; rfl, by rw [List.length_append, cl]; rfl, ?_⟩⟩
      · rw [List.length_map, cl]
        exact Nat.lt_of_lt_of_le hi (Nat.le_trans hl (by decide))
      · rw [List.all_append, Bool.and_eq_true, hc, takeSucc _ hdd]
        have e1 : ([c].all id = true) ↔ c = true := by simp
        rw [e1, hc3]
        constructor
        · rintro ⟨h1, h2⟩ d hd
          rcases List.mem_append.mp hd with q | q
          · exact h1 d q
          · rw [List.mem_singleton.mp q]
            exact h2
        · intro h1
          exact ⟨fun d hd => h1 d (List.mem_append_left _ hd), h1 dd (List.mem_append_right _ List.mem_cons_self)⟩
    · obtain ⟨s2, cs, hD, cl, hc⟩ := h
      rw [hs.length, List.take_length] at hc
      refine ⟨D, cs, rfl, SqL.of hD, _, rfl, ?_⟩
      cases hall : cs.all id with
      | false =>
        refine iteT (k false G s2 ⟨fun z => (nomatch z), ?_⟩)
        rintro ⟨ts, e2, g, _⟩
        have e3 := PyData.tuple.inj e2
        have h4 := hc.mpr fun d hd => by
          rw [e3] at hd
          obtain ⟨zs, hz, rfl⟩ := List.mem_map.mp hd
          exact ⟨zs, rfl, g zs hz⟩
        rw [h4] at hall
        cases hall
      | true =>
        obtain ⟨ts, rfl, hlots, hg⟩ := woodsAt (hs.keep s2) (hc.mp hall)
        have m10 := hn.ok.m1
        have ul := hlots.length
        have flen : ts.flatten.length ≤ 1000 := by
          have h1 := flatLe (n := 9) (ts := ts) fun zs hz => by
            have h2 : 1 + (zs.length : Int) = m := (hg zs hz).2
            omega
          omega
        have ht2 := s2 _ _ ht
        refine iteF ⟨_, rfl, t, rfl, ⟨_, SqT.of ht2⟩, fun D2 nD2 => lc_tup (K := K) (a := t) (xs := us) (fun i G2 => Same G G2 ∧ ∃ xs : List V, G2 D2 = some (.lst xs) ∧ xs.length = i ∧ ∀ (j : Nat) (x : V), xs[j]? = some x → ∃ (T : Addr) (l : List Int), x = .ref T ∧ T ≠ D2 ∧ ts[j]? = some l ∧ G2 T = some (.lst (l.map V.int)))
          ⟨sameNew nD2, [], upd_same, rfl, fun j x e => by simp at e⟩ (fun i G2 _ h => SqT.of (h.1 _ _ ht2)) (fun i x G2 hx h => ?_) (fun G2 h => ?_)⟩
        · obtain ⟨s3, xs, hD2, xl, hxs⟩ := h
          obtain ⟨T, zs, rfl, hzs, hT⟩ := hlots.get hx
          have hi : i < us.length := (List.getElem?_eq_some_iff.mp hx).1
          refine ⟨rfl, _, rfl, T, _, rfl, Or.inr (SqT.of (s3 _ _ hT)), fun L nL => ?_⟩
          have sL := sameNew (o := HO.lst (zs.map V.int)) nL
          have ne : L ≠ D2 := (ne_of_none hD2 nL).symm
          refine ⟨_, sL _ _ hD2, ?_, samePut (s3.trans sL) nD2, xs ++ [.ref L], upd_same, by rw [List.length_append, xl]; rfl, fun j y hy => ?_⟩
          · rw [xl]
            exact Nat.lt_of_lt_of_le hi (Nat.le_trans hl (by decide))
          · by_cases hj : j < xs.length
            · rw [List.getElem?_append_left hj] at hy
              obtain ⟨T2, l2, e1, e2, e3, e4⟩ := hxs j y hy
              exact ⟨T2, l2, e1, e2, e3, by rw [upd_ne e2]; exact sL _ _ e4⟩
            · rw [List.getElem?_append_right (by omega)] at hy
              have hj2 : j - xs.length = 0 := by
                cases hq : j - xs.length with
                | zero => rfl
                | succ q =>
                  rw [hq] at hy
                  simp at hy
              rw [hj2] at hy
              cases hy
              have ej : j = i := by omega
              rw [ej]
              exact ⟨L, zs, rfl, ne, hzs, by rw [upd_ne ne]; exact upd_same⟩
        · obtain ⟨s3, xs, hD2, xl, hxs⟩ := h
          refine ⟨(by show 0 ≤ sizeLine; decide), fun e0 ne0 => ?_⟩
          have se := sameNew (o := HO.lst []) ne0
          refine ⟨D2, e0, xs, ts, rfl, SqL.of (se _ _ hD2), lstsMk (by rw [xl, ul]) fun j y hy => ?_, upd_same, by omega, fun q H4 s4 hq => ?_⟩
          · obtain ⟨T2, l2, e1, e2, e3, e4⟩ := hxs j y hy
            exact ⟨T2, l2, e1, e3, se _ _ e4⟩
          refine ⟨_, rfl, q, _, rfl, SqL.of hq, flen, fun S c nS _ hcard => ⟨S, _, c, rfl, upd_same, ?_⟩⟩
          have sS := sameNew (o := SetO w S (fun j => decide (j ∈ ts.flatten)) c) nS
          refine ⟨_, rfl, q, _, rfl, Or.inl (SqL.of (sS _ _ hq)), rfl, k _ _ ((((s2.trans s3).trans se).trans s4).trans sS) ?_⟩
          rw [decide_eq_true_iff, List.length_map]
          have eqv : (V.int (c : Int) = V.int (ts.flatten.length : Int)) ↔ ts.flatten.Nodup := Iff.trans ⟨fun h => by
            have := V.int.inj h
            omega, fun h => by rw [h]⟩ (cardNodup hcard)
          refine eqv.trans ⟨fun nd => ⟨ts, rfl, hg, nd⟩, ?_⟩
          rintro ⟨ts2, e2, _, nd⟩
          rw [lotsInj (PyData.tuple.inj e2)]
          exact nd
end
end K06
namespace K06
open PySem PySem.Spec PyProof.Rows L2 Kv
/-! ### _law_bent -/
/-- a thing, and a bound of its widths -/
def spBentA : Sp := fun vs H Q _ => ∃ (a p l : Addr) (m r : Int) (ws : List V) (ls : List (Int × Int)) (x : V) (e : PyData) (n : Nat), vs = [.ref a, .ref p, x] ∧ Hand H a ∧ NetAt H p m r l ws ls ∧ Th H x e ∧ wdB n e = true ∧ 2 ≤ n ∧ n ≤ 90 ∧
  ∀ (v : V) (d : PyData) (H2 : Hp), Same H H2 → Th H2 v d → wdB (n + 1) d = true → Q v H2
theorem thRev {H : Hp} : ∀ {vs : List V} {ds : List PyData}, ThAll H vs ds → ThAll H vs.reverse ds.reverse
  | [], [], _ => .nil
  | v :: vs, d :: ds, h => by
    cases h with
    | cons h1 h2 =>
      rw [List.reverse_cons, List.reverse_cons]
      exact (thRev h2).append (.cons h1 .nil)
  | [], _ :: _, h => by cases h
  | _ :: _, [], h => by cases h
theorem cutTh {H : Hp} {vs : List V} {ds : List PyData} {n : Nat} (h : ThAll H vs ds) (hw : ∀ d ∈ ds, wdB n d = true) (lo hi : Option Int) : ∃ es, ThAll H (cutV vs lo hi) es ∧ (∀ d ∈ es, wdB n d = true) ∧ es.length ≤ ds.length :=
  ⟨_, (h.drop _).take _, fun d hd => hw d (List.mem_of_mem_drop (List.mem_of_mem_take hd)), by rw [List.length_take, List.length_drop]; omega⟩
theorem card60 {m c : Nat} {ns : List Int} (hm : m ≤ 60) (h : ∀ z ∈ ns, 0 ≤ z ∧ z < (m : Int)) (hc : ∀ ys : List Int, ys.Nodup → (∀ k, k ∈ ys ↔ k ∈ ns) → ys.length = c) : c < 64 := by
  obtain ⟨ys, nd, hy⟩ := exNodup ns
  have e := hc ys nd hy
  have h2 := inRange nd fun k hk => h k ((hy k).mp hk)
  omega
section
variable {P : Program} {w : World} {K : PySem.W.Frag} {mg : Str → Option Value} {base : Heap}
theorem ok_bent (d : Dn K mg) (B : Bn mg) : FnOk P w K mg base CX0 5 d.f_bent d.fd_bent ["_law_hand_here", "_law_net", "_law_thing"] spBentA := by
  have G_draw := ok_draw (P := P) (w := w) (base := base) d B
  have G_any := ok_any (P := P) (w := w) (base := base) d B
  have G_odd := ok_odd (P := P) (w := w) (base := base) d B
  have G_is_int := ok_is_int (P := P) (w := w) (base := base) d B
  have G_is_int := G_is_int
  refine d.D_bent.F.ok sc_law_bent (fun vs H Q E h => ?_) (fun cdv A outer s H vs Q E hr h => ?_)
  · obtain ⟨a, p, l, m, r, ws, ls, x, e, n, rfl, _⟩ := h
    rfl
  · obtain ⟨a, p, l, m, r, ws, ls, x, e, n, rfl, hH, hn, hx, hw, n2, n90, k⟩ := h
    refine ⟨_, PSs.nox ((pss_cons (ps_asg (pe_tup (pa_cons (pe_callB call_len_seq (by rfl) B.len PySem.boot_len (pa_cons (pe_ix ix_tup (pv 1) pe_int (fun _ _ => rfl)) pa_nil)) (pa_cons (pe_call G_draw (hr.mono (by decide)) (by rfl) d.D_draw.g d.D_draw.F.kp d.D_draw.b .nil pass0 (pa_cons (pv 0) (pa_cons pe_int pa_nil))) pa_nil))) (pg_tup (by rfl) (pgs_cons (pg_name (i := 3) sc_law_bent.nd rfl (Or.inr rfl)) (pgs_cons (pg_name (i := 4) sc_law_bent.nd rfl (Or.inl rfl)) pgs_nil))))
      (pss_cons (ps_if (PW.pt (pw_or (pt_cmpR op_eq (pv 4) pe_int (nomark _)) (pw_or1 (pt_not (pt_val (pe_callB call_isi (by rfl) B.isi boot_isinstance (pa_cons (pv 2) (pa_cons (pe_bltn (v := .ty "tuple") (by rfl) B.tup (by decide +kernel) rfl) pa_nil))))))))
      (pss_one (ps_ret (pe_call G_any (hr.mono (by decide)) (by rfl) d.D_any.g d.D_any.F.kp d.D_any.b .nil pass0 (pa_cons (pv 0) (pa_cons (pe_lst (pa_cons pe_non (pa_cons (pe_lst pa_nil) (pa_cons pe_dnewK (pa_cons pe_int (pa_cons pe_str (pa_cons (pe_tup (pa_cons (pe_tup (pa_cons pe_int pa_nil)) pa_nil)) (pa_cons (pe_tup (pa_cons pe_bl pa_nil)) (pa_cons (pe_tup (pa_cons (pv 3) pa_nil)) (pa_cons (pe_tup (pa_cons (pe_un un_neg pe_int) pa_nil)) (pa_cons (pe_call G_odd (hr.mono (by decide)) (by rfl) d.D_odd.g d.D_odd.F.kp d.D_odd.b .nil pass0 (pa_cons (pv 0) (pa_cons (pv 2) pa_nil))) pa_nil))))))))))) pa_nil))))) pss_nil)
      (pss_cons (ps_if (pt_cmpR op_eq (pv 4) pe_int (nomark _))
      (pss_one (ps_ret (pe_call G_any (hr.mono (by decide)) (by rfl) d.D_any.g d.D_any.F.kp d.D_any.b .nil pass0 (pa_cons (pv 0) (pa_cons (pe_lst (pa_cons (pe_revT (pv 2)) (pa_cons (pe_op op_catA (pv 2) (pe_slice sl_tupA (pv 2) po_none (po_some pe_int))) (pa_cons (pe_callTy call_list_of (by rfl) B.lst boot_list (pa_cons (pv 2) pa_nil)) (pa_cons (pe_slice sl_tupA (pv 2) (po_some pe_int) po_none) (pa_cons (pe_slice sl_tupA (pv 2) po_none (po_some (pe_un un_neg pe_int))) (pa_cons (pe_tup pa_nil) pa_nil))))))) pa_nil))))) pss_nil)
      (pss_cons (ps_if (PW.pt (pw_or (pt_cmpR op_eq (pv 4) pe_int (nomark _)) (pw_or1 (pt_cmpR op_eq (pv 3) pe_int (nomark _)))))
      (pss_one (ps_ret (pe_slice sl_tupA (pv 2) po_none (po_some (pe_call G_draw (hr.mono (by decide)) (by rfl) d.D_draw.g d.D_draw.F.kp d.D_draw.b .nil pass0 (pa_cons (pv 0) (pa_cons (pe_op op_add (pe_callB call_len_seq (by rfl) B.len PySem.boot_len (pa_cons (pv 2) pa_nil)) pe_int) pa_nil))))))) pss_nil)
      (pss_cons (ps_set (i := 5) sc_law_bent.nd rfl (Or.inl rfl) (pe_call G_draw (hr.mono (by decide)) (by rfl) d.D_draw.g d.D_draw.F.kp d.D_draw.b .nil pass0 (pa_cons (pv 0) (pa_cons (pv 3) pa_nil))))
      (pss_cons (ps_if (pt_not (pt_val (pe_callB (cr_all rfl) (by rfl) B.all boot_all (pa_cons (pe_lc (own := [("_law_one", 6)]) (g := gName 6) (tt := tYes) (te := tCall spIsInt [] E0 (tCons (tVar 6) (tCons (tC (.int 0)) (tCons (tOp (rI0 fun i j => .int (i - j)) (tVar 3) (tC (.int 1))) tNil)))) rfl sc_law_bent.nd (pi_tup (pv 2))
        (blkOk_by (N := ["_law_hand_here", "_law_net", "_law_thing", "_law_many", "_law_kind", "_law_link_here", "_law_one", "_law_gone", "_law_into"]) (sc := defScope s_law_bent) (by decide +kernel)) (fun _ _ _ _ _ => pg_name (i := 6) sc_law_bent.nd rfl (Or.inl rfl)) (fun _ _ _ _ _ => pts_nil)
        (fun _ _ _ _ _ => (pe_call G_is_int (hr.mono (by decide)) (by rfl) d.D_is_int.g d.D_is_int.F.kp d.D_is_int.b .nil pass0 (pa_cons (pv 6) (pa_cons pe_int (pa_cons (pe_op op_sub (pv 3) pe_int) pa_nil)))))) pa_nil))))
      (pss_one (ps_ret (pe_op op_catA (pv 2) (pe_tup (pa_cons (pv 5) pa_nil))))) pss_nil)
      (pss_cons (ps_if (PW.pt (pw_and (pt_cmpR op_lt (pv 4) pe_int (nomark _)) (pw_and1 (pt_cmpR op_gt (pe_callB call_len_seq (by rfl) B.len PySem.boot_len (pa_cons (pv 2) pa_nil)) pe_int (nomark _)))))
      (pss_cons (ps_set (i := 7) sc_law_bent.nd rfl (Or.inr rfl) (pe_call G_any (hr.mono (by decide)) (by rfl) d.D_any.g d.D_any.F.kp d.D_any.b .nil pass0 (pa_cons (pv 0) (pa_cons (pe_callTy call_list_of (by rfl) B.lst boot_list (pa_cons (pv 2) pa_nil)) pa_nil))))
      (pss_one (ps_ret (pe_callTy call_tuple_of (by rfl) B.tup boot_tuple (pa_cons (pe_callB (cr_sortedSet rfl) (by rfl) B.srt (by decide +kernel) (pa_cons (pe_callTy (cr_setI rfl) (by rfl) B.set boot_set (pa_cons (pe_op op_cat (pe_lc (own := [("_law_one", 6)]) (g := gName 6) (tt := (tTest (tOp rNe (tVar 6) (tVar 7)))) (te := (tVar 6)) rfl sc_law_bent.nd (pi_tup (pv 2))
        (blkOk_by (N := ["_law_hand_here", "_law_net", "_law_thing", "_law_many", "_law_kind", "_law_link_here", "_law_one", "_law_gone", "_law_into"]) (sc := defScope s_law_bent) (by decide +kernel)) (fun _ _ _ _ _ => pg_name (i := 6) sc_law_bent.nd rfl (Or.inl rfl)) (fun _ _ _ _ _ => (pts_one (pt_cmpR op_ne (pv 6) (pv 7) (nomark _))))
        (fun _ _ _ _ _ => (pv 6))) (pe_lst (pa_cons (pv 5) pa_nil))) pa_nil)) pa_nil)) pa_nil))))) pss_nil)
      (pss_cons (ps_setLc (i := 8) (own := [("_law_one", 6)]) (g := gName 6) (tt := (tTest (tOp rEq (tOp (rIxT K) (tOp (rIxT K) (tOp (rIxT K) (tVar 1) (tC (.int 2))) (tVar 6)) (tC (.int 1))) (tOp (rIxT K) (tVar 1) (tC (.int 1)))))) (te := (tVar 6)) rfl sc_law_bent.nd rfl rfl (sw_true rfl rfl rfl (by decide +kernel)) (pi_range1 (by rfl) B.rng (pa_cons (pv 3) pa_nil))
        (blkOk_by (N := ["_law_hand_here", "_law_net", "_law_thing", "_law_many", "_law_kind", "_law_link_here", "_law_one", "_law_gone", "_law_into"]) (sc := defScope s_law_bent) (by decide +kernel)) (fun _ _ _ _ _ => pg_name (i := 6) sc_law_bent.nd rfl (Or.inl rfl)) (fun _ _ _ _ _ => (pts_one (pt_cmpR op_eq (pe_ix ix_tup (pe_ix ix_tup (pe_ix ix_tup (pv 1) pe_int (fun _ _ => rfl)) (pv 6) (fun _ _ => rfl)) pe_int (fun _ _ => rfl)) (pe_ix ix_tup (pv 1) pe_int (fun _ _ => rfl)) (nomark _))))
        (fun _ _ _ _ _ => (pv 6)))
      (pss_cons (ps_set (i := 5) sc_law_bent.nd rfl (Or.inl rfl) (pe_ifExp (PW.pt (pw_and (pt_cmpR op_eq (pv 4) pe_int (nomark _)) (pw_and1 (pt_cmpR op_gt (pe_callB call_len_seq (by rfl) B.len PySem.boot_len (pa_cons (pv 8) pa_nil)) pe_int (nomark _))))) (pe_call G_any (hr.mono (by decide)) (by rfl) d.D_any.g d.D_any.F.kp d.D_any.b .nil pass0 (pa_cons (pv 0) (pa_cons (pv 8) pa_nil))) (pv 5)))
      (pss_one (ps_ret (pe_callTy call_tuple_of (by rfl) B.tup boot_tuple (pa_cons (pe_callB (cr_sortedSet rfl) (by rfl) B.srt (by decide +kernel) (pa_cons (pe_callTy (cr_setTN rfl) (by rfl) B.set boot_set (pa_cons (pe_op op_catA (pv 2) (pe_tup (pa_cons (pv 5) pa_nil))) pa_nil)) pa_nil)) pa_nil)))))))))))))), ?_⟩
    have up : wdB (n + 1) e = true := wdB.up (Nat.le_succ n) e hw
    have l60 := hn.ok.len
    have wl := hn.wl
    refine ⟨_, rfl, p, _, 2, _, rfl, rfl, SqT.of hn.top, rfl, l, ws, rfl, Or.inr (SqT.of hn.at_), _, rfl, a, 8, rfl, by decide, by decide, hH, fun kind _ => ⟨(by show 2 ≤ sizeLine; decide), fun tt0 ntt => ⟨tt0, _, rfl, SqT.of upd_same, rfl, _, _, rfl, _, _, rfl, rfl, ?_⟩⟩⟩
    have s0 := sameNew (o := HO.tup [V.int (ws.length : Int), V.int (kind : Int)]) ntt
    refine ⟨_, rfl, rfl, _, rfl, ?_⟩
    refine (have odds := ?odds; ite2 (fun _ => iteT odds) (fun _ => ⟨_, rfl, x, _, _, _, _, rfl, .ty _, (hx.keep s0).tyx, kit_tup e, _, rfl, ?rest⟩))
    case odds =>
      refine ⟨_, rfl, lstOfW (n := n) (k := 10) (.cons .non (.cons (.lst .nil (by omega)) (.cons .dic (.cons .int (.cons .str (.cons (.tup (.cons (.tup (.cons .int .nil) (by omega)) .nil) (by omega)) (.cons (.tup (.cons .bl .nil) (by omega)) (.cons (.tup (.cons (.var rfl (.int _) (by unfold wdB; rfl)) .nil) (by omega)) (.cons (.tup (.cons .neg .nil) (by omega)) (.cons (oddE rfl (hH.keep s0) rfl n2 (hx.keep s0) hw) .nil)))))))))) (by decide) fun q vs1 ds1 H1 np1 s1 hp1 hs1 hw1 hn1 => anyW ((hH.keep s0).keep s1) hp1 hs1 hw1 (by omega) (by omega) fun v dv hv hvw => k v dv H1 (s0.trans s1) hv (wdB.up (Nat.le_succ n) dv hvw)⟩
    cases hx
    case non => exact iteT odds
    case bl => exact iteT odds
    case int => exact iteT odds
    case str => exact iteT odds
    case lst => exact iteT odds
    case dic => exact iteT odds
    rename_i t vs ds ht hs hl
    obtain ⟨hw1, hw2⟩ := wdTup.mp hw
    have vl := hs.length
    have t0 := s0 _ _ ht
    have hs0 := hs.keep s0
    refine iteF ⟨_, rfl, rfl, _, rfl, ite2 (fun _ => ?k1) (fun _ => ?_)⟩
    case k1 =>
      refine ⟨_, rfl, _, rfl, t, _, rfl, SqT.of t0, fun R nR => ?_⟩
      have sR := sameNew (o := HO.tup vs.reverse) nR
      refine ⟨_, rfl, _, rfl, 1, rfl, slTup (sR _ _ t0) fun q1 H2 s2 hq1 => ?_⟩
      have l1 := cutLen vs 1
      have sq1 := sR.trans s2
      refine catTup (sq1 _ _ t0) hq1 (by have : (cutV vs none (some (1 : Int))).length ≤ 1 := l1; omega) fun q2 H3 s3 hq2 => ?_
      have s13 := sq1.trans s3
      refine ⟨_, rfl, t, _, rfl, Or.inr (SqT.of (s13 _ _ t0)), fun L nL => ?_⟩
      have sL := sameNew (o := HO.lst vs) nL
      have s14 := s13.trans sL
      refine ⟨_, rfl, 1, rfl, ?_⟩
      dsimp only [tNoPart]
      refine slTup (s14 _ _ t0) fun q3 H5 s5 hq3 => ?_
      have s15 := s14.trans s5
      refine ⟨_, rfl, 1, rfl, -1, rfl, slTup (s15 _ _ t0) fun q4 H6 s6 hq4 => ?_⟩
      have s16 := s15.trans s6
      refine ⟨(by show 0 ≤ sizeLine; decide), fun Z nZ => ?_⟩
      have sZ := sameNew (o := HO.tup []) nZ
      refine ⟨(by show 6 ≤ sizeLine; decide), fun X nX => ?_⟩
      have sX := sameNew (o := HO.lst [V.ref R, V.ref q2, V.ref L, V.ref q3, V.ref q4, V.ref Z]) nX
      have sAll := (s16.trans sZ).trans sX
      have hsG := hs0.keep sAll
      obtain ⟨e1, t1, w1, len1⟩ := cutTh hsG hw2 none (some 1)
      obtain ⟨e3, t3, w3, len3⟩ := cutTh hsG hw2 (some 1) none
      obtain ⟨e4, t4, w4, len4⟩ := cutTh hsG hw2 none (some (-1))
      have e1l : e1.length ≤ 1 := by
        have h1 := t1.length
        have h2 : (cutV vs none (some (1 : Int))).length ≤ 1 := l1
        omega
      have up2 : ∀ d ∈ ds, wdB (n + 1) d = true := fun d hd => wdB.up (Nat.le_succ n) d (hw2 d hd)
      have g1 := (((((s2.trans s3).trans sL).trans s5).trans s6).trans sZ).trans sX
      have g3 := ((((sL).trans s5).trans s6).trans sZ).trans sX
      have g4 := ((s5.trans s6).trans sZ).trans sX
      have g5 := (s6.trans sZ).trans sX
      have g6 := sZ.trans sX
      refine anyW (n := n + 1) (ds := [.tuple ds.reverse, .tuple (ds ++ e1), .list ds, .tuple e3, .tuple e4, .tuple []]) ((hH.keep s0).keep sAll) upd_same
        (.cons (.tup (g1 _ _ upd_same) (thRev hsG) (by rw [List.length_reverse]; omega)) (.cons (.tup (g3 _ _ hq2) (hsG.append t1) (by rw [List.length_append]; have := t1.length; omega)) (.cons (.lst (g4 _ _ upd_same) hsG) (.cons (.tup (g5 _ _ hq3) t3 (by have := t3.length; omega)) (.cons (.tup (g6 _ _ hq4) t4 (by have := t4.length; omega)) (.cons (.tup (sX _ _ upd_same) .nil (by decide)) .nil))))))
        (fun d hd => ?_) (by show 0 < 6; decide) (by show 6 ≤ 1000; decide) fun v dv hv hvw => k v dv _ (s0.trans sAll) hv hvw
      rcases List.mem_cons.mp hd with q | hd
      · rw [q]
        exact wdTup.mpr ⟨by rw [List.length_reverse]; omega, fun d hd => up2 d (List.mem_reverse.mp hd)⟩
      rcases List.mem_cons.mp hd with q | hd
      · rw [q]
        exact wdTup.mpr ⟨by rw [List.length_append]; omega, fun d hd => (List.mem_append.mp hd).elim (up2 d) fun z => wdB.up (Nat.le_succ n) d (w1 d z)⟩
      rcases List.mem_cons.mp hd with q | hd
      · rw [q]
        exact wdLst.mpr ⟨by omega, up2⟩
      rcases List.mem_cons.mp hd with q | hd
      · rw [q]
        exact wdTup.mpr ⟨by omega, fun d hd => wdB.up (Nat.le_succ n) d (w3 d hd)⟩
      rcases List.mem_cons.mp hd with q | hd
      · rw [q]
        exact wdTup.mpr ⟨by omega, fun d hd => wdB.up (Nat.le_succ n) d (w4 d hd)⟩
      rw [List.mem_singleton.mp hd]
      exact wdTup.mpr ⟨Nat.zero_le _, fun d hd => nomatch hd⟩
    refine ⟨_, rfl, rfl, _, rfl, ?_⟩
    refine (have k2 := ?k2; ite2 (fun _ => iteT k2) (fun _ => ⟨_, rfl, rfl, _, rfl, ite2 (fun _ => k2) (fun many0 => ?_)⟩))
    case k2 =>
      refine ⟨_, rfl, _, rfl, _, rfl, t, _, rfl, Or.inr (SqT.of t0), _, 1, rfl, rfl, a, _, rfl, by omega, by omega, hH.keep s0, fun at_ hat => ⟨(at_ : Int), rfl, slTup t0 fun q1 H2 s2 hq1 => ?_⟩⟩
      obtain ⟨e1, t1, w1, len1⟩ := cutTh (hs0.keep s2) hw2 none (some (at_ : Int))
      exact k (.ref q1) (.tuple e1) H2 (s0.trans s2) (.tup hq1 t1 (by have := t1.length; omega)) (wdTup.mpr ⟨by omega, fun d hd => wdB.up (Nat.le_succ n) d (w1 d hd)⟩)
    have mpos : 0 < ws.length := Nat.pos_of_ne_zero fun e => many0 (by rw [e]; rfl)
    refine ⟨_, rfl, _, rfl, a, _, rfl, by omega, by omega, hH.keep s0, fun lk hlk => ?_⟩
    refine ⟨_, rfl, t, rfl, ⟨_, SqT.of t0⟩, fun D nD => lc_tup (K := K) (a := t) (xs := vs) (fun i H2 => Same (upd H tt0 (HO.tup [V.int (ws.length : Int), V.int (kind : Int)])) H2 ∧ H2 D = some (.lst ((ds.take i).map fun e => V.bl (isBt e 0 ((ws.length : Int) - 1)))))
      ⟨sameNew nD, upd_same⟩ (fun i H2 _ h6 => SqT.of (h6.1 _ _ t0)) (fun i x H2 hx2 h6 => ?_) (fun H2 h6 => ?_)⟩
    · obtain ⟨s6, hD⟩ := h6
      obtain ⟨e, he, hxe⟩ := hs0.get hx2
      refine ⟨rfl, _, rfl, _, rfl, (ws.length : Int), 1, rfl, rfl, x, e, 0, (ws.length : Int) - 1, rfl, hxe.keep s6, _, hD, ?_, samePut s6 nD, ?_⟩
      · rw [List.length_map, List.length_take]
        exact Nat.lt_of_le_of_lt (show _ ≤ 1000 by omega) (by decide)
      · rw [upd_same, takeSucc ds he, List.map_append]
        rfl
    · obtain ⟨s6, hD⟩ := h6
      rw [vl, List.take_length] at hD
      have eD : (ds.map fun e => V.bl (isBt e 0 ((ws.length : Int) - 1))) = (ds.map fun e => isBt e 0 ((ws.length : Int) - 1)).map V.bl := by rw [List.map_map]; rfl
      rw [eD] at hD
      have t2 := s6 _ _ t0
      have hs2 := hs0.keep s6
      have s06 := s0.trans s6
      refine ⟨D, _, rfl, SqL.of hD, _, rfl, ?_⟩
      cases hall : (ds.map fun e => isBt e 0 ((ws.length : Int) - 1)).all id with
      | false =>
        refine iteT ⟨_, rfl, _, rfl, (by show 1 ≤ sizeLine; decide), fun u nu => ?_⟩
        have su := sameNew (o := HO.tup [V.int (lk : Int)]) nu
        refine catTup (su _ _ t2) upd_same (by show vs.length + 1 ≤ 10000; omega) fun q H3 s3 hq => ?_
        refine k (.ref q) (.tuple (ds ++ [.int (lk : Int)])) H3 ((s06.trans su).trans s3) (.tup hq (((hs2.keep su).keep s3).append (.cons (.int _) .nil)) (by rw [List.length_append]; show vs.length + 1 ≤ 100; omega)) (wdTup.mpr ⟨by rw [List.length_append]; exact Nat.succ_le_succ hw1, fun d hd => ?_⟩)
        rcases List.mem_append.mp hd with z | z
        · exact wdB.up (Nat.le_succ n) d (hw2 d z)
        · rw [List.mem_singleton.mp z]
          unfold wdB
          rfl
      | true =>
        obtain ⟨zs, rfl, rng⟩ := allBt hall
        have ev := thInv hs
        subst ev
        have zl : zs.length ≤ n := by simpa using hw1
        have fin : ∀ (ns : List Int) (q : Addr) (G : Hp), Same H G → G q = some (.tup (ns.map V.int)) → ns.length ≤ n + 1 → Q (.ref q) G := fun ns q G sG hq hl2 => k (.ref q) (.tuple (ns.map PyData.int)) G sG (.tup hq (thInts ns) (by rw [List.length_map]; omega)) (wdTup.mpr ⟨by rw [List.length_map]; exact hl2, fun d hd => by
          obtain ⟨z, _, rfl⟩ := List.mem_map.mp hd
          unfold wdB
          rfl⟩)
        refine iteF ⟨_, rfl, _, _, rfl, rfl, _, rfl, ?_⟩
        refine (have rest := ?rest2; ite2 (fun _ => ⟨_, rfl, t, _, rfl, Or.inr (SqT.of t2), _, 0, rfl, rfl, _, rfl, ite2 (fun hpos => ?gone) (fun _ => rest)⟩) (fun _ => rest))
        case gone =>
          have pos : 0 < (zs.map V.int).length := by
            have h1 : (0 : Int) < ((zs.map V.int).length : Int) := of_decide_eq_true hpos
            omega
          have lml : (zs.map V.int).length ≤ 100 := by rw [List.length_map]; omega
          refine ⟨_, rfl, _, rfl, t, _, rfl, Or.inr (SqT.of t2), fun L nL => ?_⟩
          have sL := sameNew (o := HO.lst (zs.map V.int)) nL
          have s7 := s06.trans sL
          refine ⟨a, L, _, rfl, hH.keep s7, SqL.of upd_same, pos, by omega, fun q x hx => ?_⟩
          rw [List.getElem?_map] at hx
          obtain ⟨g, hg, rfl⟩ := Option.map_eq_some_iff.mp hx
          have t3 := sL _ _ t2
          refine ⟨_, rfl, t, rfl, ⟨_, SqT.of t3⟩, fun D2 nD2 => lcI_tup (zs := zs) (fun z => z != g) (fun z => z) (SqT.of t3) (by omega) nD2 (fun z hz G sG R kR => ?_) (fun z hz _ G sG R kR => ⟨_, rfl, kR G (Same.refl _)⟩) (fun G sG hD2 => ?_)⟩
          · refine ⟨_, rfl, _, rfl, rfl, _, rfl, ?_⟩
            have e3 : (!decide (V.int z = V.int g)) = (z != g) := by
              show _ = !(z == g)
              rw [show (z == g) = decide (z = g) from rfl]
              exact congrArg _ (decide_eq_decide.mpr ⟨V.int.inj, congrArg V.int⟩)
            rw [e3]
            exact kR G (Same.refl _)
          · rw [List.map_id'] at hD2
            have fl : (zs.filter fun z => z != g).length ≤ zs.length := List.length_filter_le _ _
            refine ⟨_, rfl, (by show 1 ≤ sizeLine; decide), fun M nM => ?_⟩
            have sM := sameNew (o := HO.lst [V.int (lk : Int)]) nM
            refine ⟨D2, M, _, _, rfl, rfl, sM _ _ hD2, upd_same, ?_, fun C nC => ?_⟩
            · rw [List.length_map]
              exact Nat.le_trans (show _ + 1 ≤ 200 by omega) (by decide)
            have sC := sameNew (o := HO.lst ((zs.filter fun z => z != g).map V.int ++ [V.int (lk : Int)])) nC
            have eC : (zs.filter fun z => z != g).map V.int ++ [V.int (lk : Int)] = ((zs.filter fun z => z != g) ++ [(lk : Int)]).map V.int := by rw [List.map_append]; rfl
            have al : ((zs.filter fun z => z != g) ++ [(lk : Int)]).length ≤ n + 1 := by
              rw [List.length_append]
              show _ + 1 ≤ n + 1
              omega
            refine ⟨C, (zs.filter fun z => z != g) ++ [(lk : Int)], rfl, SqL.of (by rw [← eC]; exact upd_same), by omega, fun S c nS cle hcard => ?_⟩
            have sS := sameNew (o := SetO w S (fun j => decide (j ∈ (zs.filter fun z => z != g) ++ [(lk : Int)])) c) nS
            refine ⟨S, _, c, rfl, upd_same, card60 (by omega) (fun z hz => (List.mem_append.mp hz).elim (fun q => (fun r0 : 0 ≤ z ∧ z ≤ (ws.length : Int) - 1 => (⟨r0.1, by omega⟩ : 0 ≤ z ∧ z < (ws.length : Int))) (rng z (List.mem_filter.mp q).1)) fun q => by rw [List.mem_singleton.mp q]; exact ⟨by omega, by omega⟩) hcard, fun ns p1 _ _ nl np1 => ⟨p1, _, rfl, Or.inl ⟨SqL.of upd_same, fun u nu => ?_⟩⟩⟩
            have s1 := sameNew (o := HO.lst (ns.map V.int)) np1
            have su := sameNew (o := HO.tup (ns.map V.int)) nu
            exact fin ns u _ ((((((s7.trans sG).trans sM).trans sC).trans sS).trans s1).trans su) upd_same (by omega)
        have hn2 := hn.keep s06
        refine ⟨_, rfl, (ws.length : Int), rfl, by omega, by omega, fun D3 nD3 => lcV_range (n := ws.length) (fun z => enL ls z == r) (fun z => .int z) (by omega) nD3 (fun z hz G sG R kR => ?_) (fun z hz _ G sG R kR => ⟨_, rfl, kR G (Same.refl _)⟩) (fun G sG hD3 => ?_)⟩
        · obtain ⟨z0, z1⟩ := upTo_mem.mp hz
          have hn4 := hn2.keep sG
          obtain ⟨ee, he1, he2⟩ := linkOf hn4.all z0 (by omega)
          refine ⟨_, rfl, p, _, 2, _, rfl, rfl, SqT.of hn4.top, rfl, _, rfl, l, ws, z, _, rfl, rfl, SqT.of hn4.at_, he1, ee, _, 1, _, rfl, rfl, SqT.of he2, rfl, _, rfl, p, _, 1, _, rfl, rfl, SqT.of hn4.top, rfl, rfl, _, rfl, ?_⟩
          have e3 : decide (V.int (enL ls z) = V.int r) = (enL ls z == r) := by
            rw [show (enL ls z == r) = decide (enL ls z = r) from rfl]
            exact decide_eq_decide.mpr ⟨V.int.inj, congrArg V.int⟩
          rw [e3]
          exact kR G (Same.refl _)
        · have sA := s06.trans sG
          have t4 := sG _ _ t2
          have hD3 : G D3 = some (.lst (((Kv.upTo ws.length).filter fun z => enL ls z == r).map V.int)) := hD3
          have fl : (((Kv.upTo ws.length).filter fun z => enL ls z == r).map V.int).length ≤ 100 := by
            rw [List.length_map]
            have h1 := List.length_filter_le (fun z => enL ls z == r) (Kv.upTo ws.length)
            rw [upTo_len] at h1
            omega
          refine ⟨_, rfl, rfl, _, rfl, ?_⟩
          refine (have els := ?els; ite2 (fun _ => ⟨_, rfl, D3, _, rfl, Or.inl (SqL.of hD3), _, 0, rfl, rfl, _, rfl, ite2 (fun hpos => ?any) (fun _ => els)⟩) (fun _ => iteF els))
          case any =>
            have pos : 0 < (((Kv.upTo ws.length).filter fun z => enL ls z == r).map V.int).length := by
              have h1 : (0 : Int) < ((((Kv.upTo ws.length).filter fun z => enL ls z == r).map V.int).length : Int) := of_decide_eq_true hpos
              omega
            refine ⟨_, rfl, _, rfl, a, D3, _, rfl, hH.keep sA, SqL.of hD3, pos, by omega, fun q x hx => ?_⟩
            rw [List.getElem?_map] at hx
            obtain ⟨g, hg, rfl⟩ := Option.map_eq_some_iff.mp hx
            refine ⟨_, rfl, _, rfl, (by show 1 ≤ sizeLine; decide), fun u1 nu1 => ?_⟩
            have su1 := sameNew (o := HO.tup [V.int g]) nu1
            refine catTup (su1 _ _ t4) upd_same (by show (zs.map V.int).length + 1 ≤ 10000; rw [List.length_map]; omega) fun q2 G2 s2 hq2 => ?_
            have e2 : zs.map V.int ++ [V.int g] = (zs ++ [g]).map V.int := by rw [List.map_append]; rfl
            have al : (zs ++ [g]).length ≤ n + 1 := by
              rw [List.length_append]
              show _ + 1 ≤ n + 1
              omega
            refine ⟨q2, zs ++ [g], rfl, SqT.of (by rw [← e2]; exact hq2), by omega, fun S c nS cle hcard => ?_⟩
            have sS := sameNew (o := SetO w S (fun j => decide (j ∈ zs ++ [g])) c) nS
            refine ⟨S, _, c, rfl, upd_same, card60 (by omega) (fun z hz => (List.mem_append.mp hz).elim (fun q => (fun r0 : 0 ≤ z ∧ z ≤ (ws.length : Int) - 1 => (⟨r0.1, by omega⟩ : 0 ≤ z ∧ z < (ws.length : Int))) (rng z q)) fun q => by rw [List.mem_singleton.mp q]; exact upTo_mem.mp (List.mem_filter.mp (List.mem_of_getElem? hg)).1) hcard, fun ns p1 _ _ nl np1 => ⟨p1, _, rfl, Or.inl ⟨SqL.of upd_same, fun u nu => ?_⟩⟩⟩
            have s1 := sameNew (o := HO.lst (ns.map V.int)) np1
            have su := sameNew (o := HO.tup (ns.map V.int)) nu
            exact fin ns u _ (((((sA.trans su1).trans s2).trans sS).trans s1).trans su) upd_same (by omega)
          case els =>
            refine ⟨_, rfl, ?_⟩
            refine ⟨_, rfl, _, rfl, (by show 1 ≤ sizeLine; decide), fun u1 nu1 => ?_⟩
            have su1 := sameNew (o := HO.tup [V.int (lk : Int)]) nu1
            refine catTup (su1 _ _ t4) upd_same (by show (zs.map V.int).length + 1 ≤ 10000; rw [List.length_map]; omega) fun q2 G2 s2 hq2 => ?_
            have e2 : zs.map V.int ++ [V.int (lk : Int)] = (zs ++ [(lk : Int)]).map V.int := by rw [List.map_append]; rfl
            have al : (zs ++ [(lk : Int)]).length ≤ n + 1 := by
              rw [List.length_append]
              show _ + 1 ≤ n + 1
              omega
            refine ⟨q2, zs ++ [(lk : Int)], rfl, SqT.of (by rw [← e2]; exact hq2), by omega, fun S c nS cle hcard => ?_⟩
            have sS := sameNew (o := SetO w S (fun j => decide (j ∈ zs ++ [(lk : Int)])) c) nS
            refine ⟨S, _, c, rfl, upd_same, card60 (by omega) (fun z hz => (List.mem_append.mp hz).elim (fun q => (fun r0 : 0 ≤ z ∧ z ≤ (ws.length : Int) - 1 => (⟨r0.1, by omega⟩ : 0 ≤ z ∧ z < (ws.length : Int))) (rng z q)) fun q => by rw [List.mem_singleton.mp q]; exact ⟨by omega, by omega⟩) hcard, fun ns p1 _ _ nl np1 => ⟨p1, _, rfl, Or.inl ⟨SqL.of upd_same, fun u nu => ?_⟩⟩⟩
            have s1 := sameNew (o := HO.lst (ns.map V.int)) np1
            have su := sameNew (o := HO.tup (ns.map V.int)) nu
            exact fin ns u _ (((((sA.trans su1).trans s2).trans sS).trans s1).trans su) upd_same (by omega)
end
end K06
namespace K06
open PySem PySem.Spec PyProof.Rows L2 Kv
/-! ### _law_bent_packing -/
def netD (m r : Int) (ls : List (Int × Int)) : PyData := .tuple [.int m, .int r, .tuple (ls.map lkD)]
theorem NetAt.th {H : Hp} {p : Addr} {m r : Int} {l : Addr} {ws : List V} {ls : List (Int × Int)} (h : NetAt H p m r l ws ls) : Th H (.ref p) (netD m r ls) :=
  .tup h.top (.cons (.int m) (.cons (.int r) (.cons (.tup h.at_ h.all (by rw [h.wl]; have := h.ok.len; omega)) .nil))) (by show 3 ≤ 100; decide)
theorem netWd {m r : Int} {ls : List (Int × Int)} {n : Nat} (hl : ls.length ≤ 60) (hn : 60 ≤ n) : wdB n (netD m r ls) = true := by
  refine wdTup.mpr ⟨by show 3 ≤ n; omega, fun d hd => ?_⟩
  rcases List.mem_cons.mp hd with q | hd
  · rw [q]
    unfold wdB
    rfl
  rcases List.mem_cons.mp hd with q | hd
  · rw [q]
    unfold wdB
    rfl
  rw [List.mem_singleton.mp hd]
  refine wdTup.mpr ⟨by rw [List.length_map]; omega, fun d hd => ?_⟩
  obtain ⟨e, _, rfl⟩ := List.mem_map.mp hd
  refine wdTup.mpr ⟨by show 2 ≤ n; omega, fun d hd => ?_⟩
  rcases List.mem_cons.mp hd with q | hd
  · rw [q]
    unfold wdB
    rfl
  rw [List.mem_singleton.mp hd]
  unfold wdB
  rfl
def spBentPackA : Sp := fun vs H Q _ => ∃ (a p l : Addr) (m r : Int) (ws : List V) (ls : List (Int × Int)) (x : V) (e : PyData) (n : Nat), vs = [.ref a, .ref p, x] ∧ Hand H a ∧ NetAt H p m r l ws ls ∧ Th H x e ∧ wdB n e = true ∧ 60 ≤ n ∧ n ≤ 90 ∧
  ∀ (v : V) (d : PyData) (H2 : Hp), Same H H2 → Th H2 v d → wdB (n + 1) d = true → Q v H2
theorem atI_at {xs : List V} {n : Nat} (h : n < xs.length) : atI xs (n : Int) = some xs[n] := atI_nat (List.getElem?_eq_getElem h)
section
variable {P : Program} {w : World} {K : PySem.W.Frag} {mg : Str → Option Value} {base : Heap}
theorem ok_bent_packing (d : Dn K mg) (B : Bn mg) : FnOk P w K mg base CX0 6 d.f_bent_packing d.fd_bent_packing ["_law_hand_here", "_law_net", "_law_thing"] spBentPackA := by
  have G_draw := ok_draw (P := P) (w := w) (base := base) d B
  have G_any := ok_any (P := P) (w := w) (base := base) d B
  have G_odd := ok_odd (P := P) (w := w) (base := base) d B
  have G_bent := ok_bent (P := P) (w := w) (base := base) d B
  refine d.D_bent_packing.F.ok sc_law_bent_packing (fun vs H Q E h => ?_) (fun cdv A outer s H vs Q E hr h => ?_)
  · obtain ⟨a, p, l, m, r, ws, ls, x, e, n, rfl, _⟩ := h
    rfl
  · obtain ⟨a, p, l, m, r, ws, ls, x, e, n, rfl, hH, hn, hx, hw, n60, n90, k⟩ := h
    refine ⟨_, PSs.nox ((pss_cons (ps_set (i := 3) sc_law_bent_packing.nd rfl (Or.inl rfl) (pe_call G_draw (hr.mono (by decide)) (by rfl) d.D_draw.g d.D_draw.F.kp d.D_draw.b .nil pass0 (pa_cons (pv 0) (pa_cons pe_int pa_nil))))
      (pss_cons (ps_if (PW.pt (pw_or (pt_cmpR op_eq (pv 3) pe_int (nomark _)) (pw_or (pt_not (pt_val (pe_callB call_isi (by rfl) B.isi boot_isinstance (pa_cons (pv 2) (pa_cons (pe_bltn (v := .ty "tuple") (by rfl) B.tup (by decide +kernel) rfl) pa_nil))))) (pw_or1 (pt_cmpR op_eq (pe_callB call_len_seq (by rfl) B.len PySem.boot_len (pa_cons (pv 2) pa_nil)) pe_int (nomark _))))))
      (pss_one (ps_ret (pe_call G_any (hr.mono (by decide)) (by rfl) d.D_any.g d.D_any.F.kp d.D_any.b .nil pass0 (pa_cons (pv 0) (pa_cons (pe_lst (pa_cons (pe_tup pa_nil) (pa_cons pe_non (pa_cons (pe_lst pa_nil) (pa_cons (pe_tup (pa_cons (pe_tup pa_nil) pa_nil)) (pa_cons (pe_tup (pa_cons pe_int pa_nil)) (pa_cons (pe_lst (pa_cons (pv 2) pa_nil)) (pa_cons pe_int (pa_cons (pe_call G_odd (hr.mono (by decide)) (by rfl) d.D_odd.g d.D_odd.F.kp d.D_odd.b .nil pass0 (pa_cons (pv 0) (pa_cons (pv 1) pa_nil))) pa_nil))))))))) pa_nil))))) pss_nil)
      (pss_cons (ps_set (i := 4) sc_law_bent_packing.nd rfl (Or.inl rfl) (pe_call G_draw (hr.mono (by decide)) (by rfl) d.D_draw.g d.D_draw.F.kp d.D_draw.b .nil pass0 (pa_cons (pv 0) (pa_cons (pe_callB call_len_seq (by rfl) B.len PySem.boot_len (pa_cons (pv 2) pa_nil)) pa_nil))))
      (pss_cons (ps_if (pt_cmpR op_eq (pv 3) pe_int (nomark _))
      (pss_cons (ps_set (i := 5) sc_law_bent_packing.nd rfl (Or.inl rfl) (pe_lst (pa_cons (pe_op op_catA (pe_slice sl_tupA (pv 2) po_none (po_some (pv 4))) (pe_slice sl_tupA (pv 2) (po_some (pe_op op_add (pv 4) pe_int)) po_none)) (pa_cons (pe_op op_catA (pv 2) (pe_tup (pa_cons (pe_ix ix_tup (pv 2) (pv 4) (fun _ _ => rfl)) pa_nil))) (pa_cons (pe_revT (pv 2)) (pa_cons (pe_callTy call_list_of (by rfl) B.lst boot_list (pa_cons (pv 2) pa_nil)) (pa_cons (pe_ix ix_tup (pv 2) (pv 4) (fun _ _ => rfl)) pa_nil)))))))
      (pss_one (ps_ret (pe_call G_any (hr.mono (by decide)) (by rfl) d.D_any.g d.D_any.F.kp d.D_any.b .nil pass0 (pa_cons (pv 0) (pa_cons (pv 5) pa_nil)))))) pss_nil)
      (pss_one (ps_ret (pe_op op_catA (pe_op op_catA (pe_slice sl_tupA (pv 2) po_none (po_some (pv 4))) (pe_tup (pa_cons (pe_call G_bent (hr.mono (by decide)) (by rfl) d.D_bent.g d.D_bent.F.kp d.D_bent.b .nil pass0 (pa_cons (pv 0) (pa_cons (pv 1) (pa_cons (pe_ix ix_tup (pv 2) (pv 4) (fun _ _ => rfl)) pa_nil)))) pa_nil))) (pe_slice sl_tupA (pv 2) (po_some (pe_op op_add (pv 4) pe_int)) po_none))))))))), ?_⟩
    have up : wdB (n + 1) e = true := wdB.up (Nat.le_succ n) e hw
    have l60 := hn.ok.len
    refine ⟨_, rfl, a, 6, rfl, by decide, by decide, hH, fun kind _ => ?_⟩
    refine ⟨_, rfl, rfl, _, rfl, ?_⟩
    refine (have odds := ?odds; ite2 (fun _ => iteT odds) (fun _ => ⟨_, rfl, x, _, _, _, _, rfl, .ty _, hx.tyx, kit_tup e, _, rfl, ?rest⟩))
    case odds =>
      refine ⟨_, rfl, lstOfW (n := n) (k := 8) (.cons (.tup .nil (by omega)) (.cons .non (.cons (.lst .nil (by omega)) (.cons (.tup (.cons (.tup .nil (by omega)) .nil) (by omega)) (.cons (.tup (.cons .int .nil) (by omega)) (.cons (.lst (.cons (.var rfl hx hw) .nil) (by omega)) (.cons .int (.cons (oddE rfl hH rfl (by omega) hn.th (netWd l60 n60)) .nil)))))))) (by decide) fun q vs1 ds1 H1 np1 s1 hp1 hs1 hw1 hn1 => anyW (hH.keep s1) hp1 hs1 hw1 (by omega) (by omega) fun v dv hv hvw => k v dv H1 s1 hv (wdB.up (Nat.le_succ n) dv hvw)⟩
    cases hx
    case non => exact iteT (iteT odds)
    case bl => exact iteT (iteT odds)
    case int => exact iteT (iteT odds)
    case str => exact iteT (iteT odds)
    case lst => exact iteT (iteT odds)
    case dic => exact iteT (iteT odds)
    rename_i t vs ds ht hs hl
    obtain ⟨hw1, hw2⟩ := wdTup.mp hw
    have vl := hs.length
    have up2 : ∀ d ∈ ds, wdB (n + 1) d = true := fun d hd => wdB.up (Nat.le_succ n) d (hw2 d hd)
    refine iteF ⟨_, rfl, t, _, rfl, Or.inr (SqT.of ht), rfl, _, rfl, ite2 (fun _ => odds) (fun hne => ?_)⟩
    have pos : 0 < vs.length := Nat.pos_of_ne_zero fun z => hne (by rw [z]; rfl)
    refine ⟨_, rfl, _, rfl, t, _, rfl, Or.inr (SqT.of ht), a, _, rfl, by omega, by omega, hH, fun at_ hat => ?_⟩
    have hat2 : at_ < vs.length := by omega
    refine ⟨_, rfl, rfl, _, rfl, ite2 (fun _ => ?_) (fun _ => ?_)⟩
    · -- a tree less, twice, in another order
      refine ⟨_, rfl, _, rfl, _, rfl, slTup ht fun q1 H1 s1 hq1 => ?_⟩
      refine ⟨_, rfl, _, rfl, (at_ : Int), 1, rfl, rfl, _, rfl, ?_⟩
      dsimp only [tNoPart]
      refine slTup (s1 _ _ ht) fun q2 H2 s2 hq2 => ?_
      have s12 := s1.trans s2
      have lc := cutAt vs at_ hat2 .non
      rw [List.length_append, List.length_append] at lc
      have lc : (cutV vs none (some (at_ : Int))).length + 1 + (cutV vs (some ((at_ : Int) + 1)) none).length = vs.length := lc
      refine catTup (s2 _ _ hq1) hq2 (by omega) fun q3 H3 s3 hq3 => ?_
      have s13 := s12.trans s3
      refine ⟨_, rfl, _, rfl, _, rfl, t, vs, (at_ : Int), _, rfl, rfl, SqT.of (s13 _ _ ht), atI_at hat2, (by show 1 ≤ sizeLine; decide), fun u nu => ?_⟩
      have su := sameNew (o := HO.tup [vs[at_]]) nu
      have s1u := s13.trans su
      refine catTup (s1u _ _ ht) upd_same (by show vs.length + 1 ≤ 10000; omega) fun q4 H4 s4 hq4 => ?_
      have s14 := s1u.trans s4
      refine ⟨_, rfl, t, _, rfl, SqT.of (s14 _ _ ht), fun R nR => ?_⟩
      have sR := sameNew (o := HO.tup vs.reverse) nR
      have s15 := s14.trans sR
      refine ⟨_, rfl, t, _, rfl, Or.inr (SqT.of (s15 _ _ ht)), fun L nL => ?_⟩
      have sL := sameNew (o := HO.lst vs) nL
      have s16 := s15.trans sL
      refine ⟨_, rfl, _, rfl, t, vs, (at_ : Int), _, rfl, rfl, SqT.of (s16 _ _ ht), atI_at hat2, (by show 5 ≤ sizeLine; decide), fun X nX => ?_⟩
      have sX := sameNew (o := HO.lst [V.ref q3, V.ref q4, V.ref R, V.ref L, vs[at_]]) nX
      have sAll := s16.trans sX
      have hsG := hs.keep sAll
      obtain ⟨e1, t1, w1, len1⟩ := cutTh hsG hw2 none (some (at_ : Int))
      obtain ⟨e2, t2, w2, len2⟩ := cutTh hsG hw2 (some ((at_ : Int) + 1)) none
      have t1l := t1.length
      have t2l := t2.length
      obtain ⟨dd, hdd, hdt⟩ := hsG.get (List.getElem?_eq_getElem hat2)
      have ddm := List.mem_of_getElem? hdd
      have g3 := (((su.trans s4).trans sR).trans sL).trans sX
      have g4 := (sR.trans sL).trans sX
      have g5 := sL.trans sX
      refine ⟨_, rfl, _, rfl, anyW (n := n + 1) (ds := [.tuple (e1 ++ e2), .tuple (ds ++ [dd]), .tuple ds.reverse, .list ds, dd]) (hH.keep sAll) upd_same
        (.cons (.tup (g3 _ _ hq3) (t1.append t2) (by rw [List.length_append]; omega)) (.cons (.tup (g4 _ _ hq4) (hsG.append (.cons hdt .nil)) (by rw [List.length_append]; show vs.length + 1 ≤ 100; omega)) (.cons (.tup (g5 _ _ upd_same) (thRev hsG) (by rw [List.length_reverse]; omega)) (.cons (.lst (sX _ _ upd_same) hsG) (.cons hdt .nil)))))
        (fun d hd => ?_) (by show 0 < 5; decide) (by show 5 ≤ 1000; decide) fun v dv hv hvw => k v dv _ sAll hv hvw⟩
      rcases List.mem_cons.mp hd with q | hd
      · rw [q]
        exact wdTup.mpr ⟨by rw [List.length_append]; omega, fun d hd => (List.mem_append.mp hd).elim (fun z => wdB.up (Nat.le_succ n) d (w1 d z)) fun z => wdB.up (Nat.le_succ n) d (w2 d z)⟩
      rcases List.mem_cons.mp hd with q | hd
      · rw [q]
        exact wdTup.mpr ⟨by rw [List.length_append]; exact Nat.succ_le_succ hw1, fun d hd => (List.mem_append.mp hd).elim (up2 d) fun z => by rw [List.mem_singleton.mp z]; exact up2 _ ddm⟩
      rcases List.mem_cons.mp hd with q | hd
      · rw [q]
        exact wdTup.mpr ⟨by rw [List.length_reverse]; omega, fun d hd => up2 d (List.mem_reverse.mp hd)⟩
      rcases List.mem_cons.mp hd with q | hd
      · rw [q]
        exact wdLst.mpr ⟨by omega, up2⟩
      rw [List.mem_singleton.mp hd]
      exact up2 _ ddm
    · -- a tree bent
      refine ⟨_, rfl, _, rfl, _, rfl, slTup ht fun q1 H1 s1 hq1 => ?_⟩
      obtain ⟨dd, hdd, hdt⟩ := (hs.keep s1).get (List.getElem?_eq_getElem hat2)
      have ddm := List.mem_of_getElem? hdd
      refine ⟨_, rfl, _, rfl, _, rfl, _, rfl, t, vs, (at_ : Int), _, rfl, rfl, SqT.of (s1 _ _ ht), atI_at hat2, a, p, l, m, r, ws, ls, _, dd, n, rfl, hH.keep s1, hn.keep s1, hdt, hw2 _ ddm, by omega, n90, fun v dv H2 s2 hv hvw => ⟨(by show 1 ≤ sizeLine; decide), fun u nu => ?_⟩⟩
      have su := sameNew (o := HO.tup [v]) nu
      have s12 := (s1.trans s2).trans su
      have lc := cutAt vs at_ hat2 .non
      rw [List.length_append, List.length_append] at lc
      have lc : (cutV vs none (some (at_ : Int))).length + 1 + (cutV vs (some ((at_ : Int) + 1)) none).length = vs.length := lc
      refine catTup ((s2.trans su) _ _ hq1) upd_same (by show _ + 1 ≤ 10000; omega) fun q3 H3 s3 hq3 => ?_
      have s13 := s12.trans s3
      refine ⟨_, rfl, _, rfl, (at_ : Int), 1, rfl, rfl, _, rfl, ?_⟩
      dsimp only [tNoPart]
      refine slTup (s13 _ _ ht) fun q4 H4 s4 hq4 => ?_
      have s14 := s13.trans s4
      refine catTup (s4 _ _ hq3) hq4 (by rw [List.length_append]; show _ + 1 + _ ≤ 10000; omega) fun q5 H5 s5 hq5 => ?_
      have s15 := s14.trans s5
      have hsG := hs.keep s15
      obtain ⟨e1, t1, w1, len1⟩ := cutTh hsG hw2 none (some (at_ : Int))
      obtain ⟨e2, t2, w2, len2⟩ := cutTh hsG hw2 (some ((at_ : Int) + 1)) none
      have t1l := t1.length
      have t2l := t2.length
      have gv := (su.trans s3).trans (s4.trans s5)
      refine k (.ref q5) (.tuple ((e1 ++ [dv]) ++ e2)) H5 s15 (.tup hq5 ((t1.append (.cons (hv.keep gv) .nil)).append t2) (by rw [List.length_append, List.length_append]; show _ + 1 + _ ≤ 100; omega)) (wdTup.mpr ⟨by rw [List.length_append, List.length_append]; show _ + 1 + _ ≤ n + 1; omega, fun d hd => ?_⟩)
      rcases List.mem_append.mp hd with hd | hd
      · rcases List.mem_append.mp hd with hd | hd
        · exact wdB.up (Nat.le_succ n) d (w1 d hd)
        · rw [List.mem_singleton.mp hd]
          exact hvw
      · exact wdB.up (Nat.le_succ n) d (w2 d hd)
end
end K06
namespace K06
open PySem PySem.Spec PyProof.Rows L2 Kv
/-! ### _law_made, law -/
theorem NetR.right {m r : Int} {ls : List (Int × Int)} (h : NetR m r ls) : Right m r (ls.map lkD) := by
  refine ⟨h.m0, h.m1, h.r0, h.r1, by rw [List.length_map]; exact h.len, fun d hd => ?_⟩
  obtain ⟨e, he, rfl⟩ := List.mem_map.mp hd
  obtain ⟨h1, h2, h3, h4, h5⟩ := h.lk e he
  show ((decide (0 ≤ e.1) && decide (e.1 ≤ m - 1)) && ((decide (0 ≤ e.2) && decide (e.2 ≤ m - 1)) && !decide (e.1 = e.2))) = true
  rw [decide_eq_true h1, decide_eq_true (show e.1 ≤ m - 1 by omega), decide_eq_true h3, decide_eq_true (show e.2 ≤ m - 1 by omega), decide_eq_false h5]
  rfl
def spMadeA (C : Addr) : Sp := fun vs H Q _ => ∃ (p l : Addr) (m r : Int) (ws : List V) (ls : List (Int × Int)), vs = [.ref p] ∧ NetAt H p m r l ws ls ∧ ∀ b H2, Same H H2 → NetO C H2 b l m r ws ls → Q (.ref b) H2
def spLaw (K : PySem.W.Frag) : Sp := fun vs H Q _ => ∃ (a : Addr) (ns : List Int), vs = [.ref a] ∧ SqL K H a (ns.map V.int) ∧ ns.length ≤ 63 ∧ ∀ H2, Q (.bl true) H2
theorem showsBl {K : PySem.W.Frag} {H : Hp} (c : Bool) : Shows K H (.bl c) (PyData.bool c).shown := by
  cases c
  · exact (⟨by decide +kernel, by decide +kernel, by decide +kernel, by decide +kernel, by decide +kernel, by decide +kernel⟩ : Neat 0 5 (.bool false)).shows (by decide) (by decide) (.bl _)
  · exact (⟨by decide +kernel, by decide +kernel, by decide +kernel, by decide +kernel, by decide +kernel, by decide +kernel⟩ : Neat 0 5 (.bool true)).shows (by decide) (by decide) (.bl _)
theorem showsNo {K : PySem.W.Frag} {H : Hp} : Shows K H (.str "none") (PyData.str "none").shown :=
  (⟨by decide +kernel, by decide +kernel, by decide +kernel, by decide +kernel, by decide +kernel, by decide +kernel⟩ : Neat 0 4 (.str "none")).shows (by decide) (by decide) (.str _)
theorem intsNeat : ∀ l : List Int, (∀ i ∈ l, 0 ≤ i ∧ i ≤ 100) → NeatAll 1 (21 * l.length) (l.map PyData.int)
  | [], _ => NeatAll.nil
  | i :: l, h => by
    have a := NeatAll.cons ((neatInt (h i List.mem_cons_self).1 (h i List.mem_cons_self).2).mono (Nat.zero_le 1) (Nat.le_refl _)) (intsNeat l fun j hj => h j (List.mem_cons_of_mem _ hj))
    have e : 20 + 1 + 21 * l.length = 21 * (i :: l).length := by rw [List.length_cons]; omega
    rw [e] at a
    exact a
theorem showsInts {K : PySem.W.Frag} {H : Hp} {p : Addr} {l : List Int} (hp : H p = some (.tup (l.map V.int))) (hl : l.length ≤ 100) (h : ∀ i ∈ l, 0 ≤ i ∧ i ≤ 100) : Shows K H (.ref p) (PyData.tuple (l.map PyData.int)).shown :=
  ((intsNeat l h).tup).shows (by decide) (by omega) (.tup hp (thInts l) (by rw [List.length_map]; exact hl))
theorem boolIff {a b : Bool} {p : Prop} (h1 : a = true ↔ p) (h2 : b = true ↔ p) : a = b := by
  cases a <;> cases b
  · rfl
  · exact (nomatch h1.mpr (h2.mp rfl))
  · exact (nomatch h2.mpr (h1.mp rfl))
  · rfl
/-- the two ways to tell the heard places -/
theorem heardSame {r : Int} {ls : List (Int × Int)} {zs hs os : List Int} (g : GrowsI ls [r] zs) (up : hs.Pairwise (· < ·)) (mem : ∀ k, k ∈ hs ↔ Reach (stL ls) (enL ls) [r] zs k) (hp : os.Perm (r :: zs.map (enL ls))) (hu : os.Pairwise (· ≤ ·)) : os = hs := by
  have nd : (r :: zs.map (enL ls)).Nodup := g.nd
  have nd2 : os.Nodup := hp.nodup_iff.mpr nd
  have up2 : os.Pairwise (· < ·) := by
    refine (List.Pairwise.and hu nd2).imp ?_
    intro a b h
    have h1 := h.1
    have h2 := h.2
    omega
  refine sortedEq up2 up fun k => ?_
  rw [hp.mem_iff, mem k]
  constructor
  · intro h
    rcases List.mem_cons.mp h with q | q
    · rw [q]
      exact .base List.mem_cons_self
    · obtain ⟨z, hz, rfl⟩ := List.mem_map.mp q
      exact g.rc z hz
  · intro h
    cases h with
    | base hb => exact List.mem_cons.mpr (Or.inl (List.mem_singleton.mp hb))
    | step _ hz => exact List.mem_cons_of_mem _ (List.mem_map_of_mem hz)
theorem lotsWd {ts : List (List Int)} {n : Nat} (h : ∀ zs ∈ ts, zs.length ≤ n) (hl : ts.length ≤ n) : wdB n (.tuple (ts.map fun zs => PyData.tuple (zs.map PyData.int))) = true :=
  wdTup.mpr ⟨by rw [List.length_map]; exact hl, fun d hd => by
    obtain ⟨zs, hz, rfl⟩ := List.mem_map.mp hd
    refine wdTup.mpr ⟨by rw [List.length_map]; exact h zs hz, fun d hd => ?_⟩
    obtain ⟨z, _, rfl⟩ := List.mem_map.mp hd
    unfold wdB
    rfl⟩
theorem intsWd {zs : List Int} {n : Nat} (h : zs.length ≤ n) : wdB n (.tuple (zs.map PyData.int)) = true :=
  wdTup.mpr ⟨by rw [List.length_map]; exact h, fun d hd => by
    obtain ⟨z, _, rfl⟩ := List.mem_map.mp hd
    unfold wdB
    rfl⟩
section
variable {P : Program} {w : World} {K : PySem.W.Frag} {mg : Str → Option Value} {base : Heap}
theorem ok_made (d : Dn K mg) (B : Bn mg) (N : Nk K mg d) : FnOk P w K mg base (L2.CX P w) 6 d.f_made d.fd_made ["_law_net"] (spMadeA (He.ga K "Net")) := by
  have G_init := ok_INet (P := P) (w := w) (base := base) d B N
  refine d.D_made.F.ok (CX := L2.CX P w) sc_law_made (fun vs H Q E h => ?_) (fun cdv A outer s H vs Q E hr h => ?_)
  · obtain ⟨p, l, m, r, ws, ls, rfl, _⟩ := h
    rfl
  · obtain ⟨q, l, m, r, ws, ls, rfl, hn, k⟩ := h
    refine ⟨_, ((pss_one (ps_ret (pe_make N.mkN G_init (hr.mono (by decide)) (by rfl) N.gN d.b_Net___init__ .nil passL (pa_cons (pe_ix ix_tup (pv 0) pe_int (fun _ _ => rfl)) (pa_cons (pe_ix ix_tup (pv 0) pe_int (fun _ _ => rfl)) (pa_cons (pe_ix ix_tup (pv 0) pe_int (fun _ _ => rfl)) pa_nil))))))), ?_⟩
    refine ⟨_, rfl, q, _, 0, _, rfl, rfl, SqT.of hn.top, rfl, _, rfl, q, _, 1, _, rfl, rfl, SqT.of hn.top, rfl, _, rfl, q, _, 2, _, rfl, rfl, SqT.of hn.top, rfl, fun b dxb nb ndxb hbd => ?_⟩
    have t1 := sameNew (o := HO.own b) ndxb
    have nb2 : upd H dxb (.own b) b = none := by rw [upd_ne (Ne.symm hbd)]; exact nb
    have t2 := t1.trans (sameNew (o := HO.ins (He.ga K "Net") dxb []) nb2)
    have links : Th H (.ref l) (.tuple (ls.map lkD)) := .tup hn.at_ hn.all (by rw [hn.wl]; have := hn.ok.len; omega)
    refine ⟨b, dxb, .int m, .int r, .ref l, _, _, _, rfl, upd_same, .int m, .int r, links.keep t2, fun _ H8 t3 => ⟨rfl, ?_⟩, fun ne => (ne hn.ok.right.wv).elim⟩
    have s8 : Same H (upd H8 b (.ins (He.ga K "Net") dxb (netF (.int m) (.int r) (.ref l)))) := samePut (t2.trans t3) nb
    have hn8 := hn.keep s8
    exact k b _ s8 ⟨⟨dxb, upd_same⟩, hn8.at_, hn8.all, hn.ok⟩
theorem ok_law (d : Dn K mg) (B : Bn mg) (N : Nk K mg d) (T : T06 K mg) : FnG P w K mg base 14 d.f_law d.fd_law ["_law_script"] (spLaw K) := by
  have G_hand := ok_hand (P := P) (w := w) (base := base) d B
  have G_draw := ok_draw (P := P) (w := w) (base := base) d B
  have G_drawn := ok_drawn (P := P) (w := w) (base := base) d B
  have G_made := ok_made (P := P) (w := w) (base := base) d B N
  have G_part := ok_part (P := P) (w := w) (base := base) d B
  have G_apart := ok_apart (P := P) (w := w) (base := base) d B
  have G_is := ok_isR (P := P) (w := w) (base := base) d B
  have G_is_tree := ok_is_tree (P := P) (w := w) (base := base) d B N
  have G_is_grown := ok_is_grown (P := P) (w := w) (base := base) d B N
  have G_is_packing := ok_is_packing (P := P) (w := w) (base := base) d B N
  have G_l_is_tree := ok_l_is_tree (P := P) (w := w) (base := base) d B
  have G_l_is_grown := ok_l_is_grown (P := P) (w := w) (base := base) d B
  have G_l_is_packing := ok_l_is_packing (P := P) (w := w) (base := base) d B
  have G_heard_word := ok_heard_word (P := P) (w := w) (base := base) d B N T
  have G_heard := ok_l_heard (P := P) (w := w) (base := base) d B
  have G_bent := ok_bent (P := P) (w := w) (base := base) d B
  have G_bent_packing := ok_bent_packing (P := P) (w := w) (base := base) d B
  refine okG d.D_law.F sclaw (fun vs H Q E h => ?_) (fun cdv A outer s H vs Q E hg hr h => ?_)
  · obtain ⟨a, ns, rfl, _⟩ := h
    rfl
  · obtain ⟨a, ns, rfl, hS, hlen, k⟩ := h
    refine ⟨_, ((pss_cons (ps_set (i := 1) sclaw.nd rfl (Or.inl rfl) (pe_call G_hand (hr.mono (by decide)) (by rfl) d.D_hand.g d.D_hand.F.kp d.D_hand.b .nil pass0 (pa_cons (pv 0) pa_nil)))
      (pss_cons (ps_for PassesOwn.never rfl (pi_range1 (by rfl) B.rng (pa_cons pe_int pa_nil)) (pg_name (i := 2) sclaw.nd rfl (Or.inl rfl))
      (pss_cons (ps_set (i := 3) sclaw.nd rfl (Or.inl rfl) (pe_call G_drawn (hr.mono (by decide)) (by rfl) d.D_drawn.g d.D_drawn.F.kp d.D_drawn.b .nil pass0 (pa_cons (pv 1) (pa_cons (pe_ix ix_list (pe_lst (pa_cons pe_int (pa_cons pe_int (pa_cons pe_int pa_nil)))) (pe_call G_draw (hr.mono (by decide)) (by rfl) d.D_draw.g d.D_draw.F.kp d.D_draw.b .nil pass0 (pa_cons (pv 1) (pa_cons pe_int pa_nil))) (fun _ _ => rfl)) (pa_cons pe_int (pa_cons pe_int pa_nil))))))
      (pss_cons (ps_par (i := 4) (j := 5) rfl sclaw.nd rfl rfl (by decide) rfl rfl (pa_cons (pe_call G_made (hr.mono (by decide)) (by rfl) d.D_made.g d.D_made.F.kp d.D_made.b .nil passL (pa_cons (pv 3) pa_nil)) (pa_cons (pe_tupRg rfl (by rfl) B.tup (prg_1 (by rfl) B.rng (pe_callB call_len_seq (by rfl) B.len PySem.boot_len (pa_cons (pe_ix ix_tup (pv 3) pe_int (fun _ _ => rfl)) pa_nil)))) pa_nil)) (by rfl))
      (C8.pss_cut (ps_set (i := 6) sclaw.nd rfl (Or.inl rfl) (pe_ifExp (pt_cmpR op_eq (pe_call G_draw (hr.mono (by decide)) (by rfl) d.D_draw.g d.D_draw.F.kp d.D_draw.b .nil pass0 (pa_cons (pv 1) (pa_cons pe_int pa_nil))) pe_int (nomark _)) (pe_call G_part (hr.mono (by decide)) (by rfl) d.D_part.g d.D_part.F.kp d.D_part.b .nil pass0 (pa_cons (pv 1) (pa_cons (pv 3) (pa_cons (pv 5) pa_nil)))) (pe_ix ix_tup (pe_op op_catA (pe_call G_apart (hr.mono (by decide)) (by rfl) d.D_apart.g d.D_apart.F.kp d.D_apart.b .nil pass0 (pa_cons (pv 1) (pa_cons (pv 3) pa_nil))) (pe_tup (pa_cons (pe_tup pa_nil) pa_nil))) pe_int (fun _ _ => rfl)))) (pss_cons (ps_for PassesOwn.never rfl (pi_range1 (by rfl) B.rng (pa_cons pe_int pa_nil)) (pg_name (i := 7) sclaw.nd rfl (Or.inl rfl))
      (pss_cons (ps_if (pt_not (pt_val (pe_callFG G_is hg (hr.mono (by decide)) (by rfl) d.D_is.g d.D_is.F.kp d.D_is.b (pa_cons (pe_call G_is_tree (hr.mono (by decide)) (by rfl) d.D_is_tree.g d.D_is_tree.F.kp d.D_is_tree.b .nil passL (pa_cons (pv 4) (pa_cons (pv 6) pa_nil))) (pa_cons (pe_call G_l_is_tree (hr.mono (by decide)) (by rfl) d.D_l_is_tree.g d.D_l_is_tree.F.kp d.D_l_is_tree.b .nil pass0 (pa_cons (pv 3) (pa_cons (pv 6) pa_nil))) pa_nil)))))
      (pss_one (ps_ret pe_bl)) pss_nil)
      (pss_cons (ps_set (i := 8) sclaw.nd rfl (Or.inl rfl) (pe_call G_l_is_grown (hr.mono (by decide)) (by rfl) d.D_l_is_grown.g d.D_l_is_grown.F.kp d.D_l_is_grown.b .nil pass0 (pa_cons (pv 3) (pa_cons (pv 6) pa_nil))))
      (pss_cons (ps_if (pt_not (pt_val (pe_callFG G_is hg (hr.mono (by decide)) (by rfl) d.D_is.g d.D_is.F.kp d.D_is.b (pa_cons (pe_call G_is_grown (hr.mono (by decide)) (by rfl) d.D_is_grown.g d.D_is_grown.F.kp d.D_is_grown.b .nil passL (pa_cons (pv 4) (pa_cons (pv 6) pa_nil))) (pa_cons (pv 8) pa_nil)))))
      (pss_one (ps_ret pe_bl)) pss_nil)
      (pss_cons (ps_if (pt_not (pt_val (pe_callFG G_is hg (hr.mono (by decide)) (by rfl) d.D_is.g d.D_is.F.kp d.D_is.b (pa_cons (pe_call G_heard_word (hr.mono (by decide)) (by rfl) d.D_heard_word.g d.D_heard_word.F.kp d.D_heard_word.b .nil pass0 (pa_cons (pv 4) (pa_cons (pv 6) pa_nil))) (pa_cons (pe_ifExp (pt_val (pv 8)) (pe_call G_heard (hr.mono (by decide)) (by rfl) d.D_heard.g d.D_heard.F.kp d.D_heard.b .nil pass0 (pa_cons (pv 3) (pa_cons (pv 6) pa_nil))) pe_str) pa_nil)))))
      (pss_one (ps_ret pe_bl)) pss_nil)
      (pss_one (ps_set (i := 6) sclaw.nd rfl (Or.inl rfl) (pe_call G_bent (hr.mono (by decide)) (by rfl) d.D_bent.g d.D_bent.F.kp d.D_bent.b .nil pass0 (pa_cons (pv 1) (pa_cons (pv 3) (pa_cons (pv 6) pa_nil)))))))))))
      (pss_cons (ps_set (i := 6) sclaw.nd rfl (Or.inl rfl) (pe_call G_apart (hr.mono (by decide)) (by rfl) d.D_apart.g d.D_apart.F.kp d.D_apart.b .nil pass0 (pa_cons (pv 1) (pa_cons (pv 3) pa_nil))))
      (pss_one (ps_for PassesOwn.never rfl (pi_range1 (by rfl) B.rng (pa_cons pe_int pa_nil)) (pg_name (i := 7) sclaw.nd rfl (Or.inl rfl))
      (pss_cons (ps_if (pt_not (pt_val (pe_callFG G_is hg (hr.mono (by decide)) (by rfl) d.D_is.g d.D_is.F.kp d.D_is.b (pa_cons (pe_call G_is_packing (hr.mono (by decide)) (by rfl) d.D_is_packing.g d.D_is_packing.F.kp d.D_is_packing.b .nil passL (pa_cons (pv 4) (pa_cons (pv 6) pa_nil))) (pa_cons (pe_call G_l_is_packing (hr.mono (by decide)) (by rfl) d.D_l_is_packing.g d.D_l_is_packing.F.kp d.D_l_is_packing.b .nil pass0 (pa_cons (pv 3) (pa_cons (pv 6) pa_nil))) pa_nil)))))
      (pss_one (ps_ret pe_bl)) pss_nil)
      (pss_one (ps_set (i := 6) sclaw.nd rfl (Or.inl rfl) (pe_call G_bent_packing (hr.mono (by decide)) (by rfl) d.D_bent_packing.g d.D_bent_packing.F.kp d.D_bent_packing.b .nil pass0 (pa_cons (pv 1) (pa_cons (pv 3) (pa_cons (pv 6) pa_nil)))))))))))))))
      (pss_one (ps_ret pe_bl))))), ?_⟩
    refine ⟨_, rfl, a, ns, rfl, hS, hlen, fun hd H1 nhd s1 hH => ?_⟩
    refine ⟨3, rfl, by decide, by decide, for_range (lo := 0) (n := 3) (fun i σ2 H2 => ∃ (v2 v3 v4 v5 v6 v7 v8 : Option V), σ2 = [some (.ref a), some (.ref hd), v2, v3, v4, v5, v6, v7, v8] ∧ Same H1 H2)
      ⟨_, _, _, _, _, _, _, rfl, Same.refl _⟩ ?_ ?_⟩
    · rintro i σ2 H2 hi ⟨v2, v3, v4, v5, v6, v7, v8, rfl, s2⟩
      refine ⟨_, rfl, (by show 3 ≤ sizeLine; decide), fun X nX => ?_⟩
      have sX := sameNew (o := HO.lst [V.int 3, V.int 5, V.int 8]) nX
      have hH2 := (hH.keep s2).keep sX
      refine ⟨_, rfl, hd, 3, rfl, by decide, by decide, hH2, fun z3 hz3 => ?_⟩
      obtain ⟨z, hz, z0, z1⟩ : ∃ z : Int, atI [V.int 3, V.int 5, V.int 8] (z3 : Int) = some (.int z) ∧ 2 ≤ z ∧ z ≤ 10 := by
        match z3, hz3 with
        | 0, _ => exact ⟨3, rfl, by decide, by decide⟩
        | 1, _ => exact ⟨5, rfl, by decide, by decide⟩
        | 2, _ => exact ⟨8, rfl, by decide, by decide⟩
        | n + 3, h => exact absurd h (by omega)
      refine ⟨X, _, (z3 : Int), _, rfl, rfl, SqL.of upd_same, hz, hd, z, 4, 10, rfl, hH2, z0, z1, by decide, by decide, by decide, by decide, fun q m r l ws ls H3 nq s3 hn _ => ?_⟩
      have s03 := (s2.trans sX).trans s3
      have hH3 := hH2.keep s3
      refine ⟨_, rfl, q, l, m, r, ws, ls, rfl, hn, fun b H4 s4 ob => ?_⟩
      have hn4 := hn.keep s4
      have l60 := hn.ok.len
      have wl := hn.wl
      have m10 := hn.ok.m1
      refine ⟨_, rfl, q, _, 2, _, rfl, rfl, SqT.of hn4.top, rfl, l, ws, rfl, Or.inr (SqT.of hn4.at_), _, rfl, RgOk.of_le (Int.le_refl _) (by omega) (by decide) (by omega), fun ev nev => ⟨_, _, rfl, ?_⟩⟩
      have sE := sameNew (o := HO.tup (rgV 0 ws.length)) nev
      have hev : upd H4 ev (.tup (rgV 0 ws.length)) ev = some (.tup ((Kv.upTo ls.length).map V.int)) := by rw [upd_same, rgV_upTo, wl]
      obtain ⟨G, hG⟩ : ∃ G, G = upd H4 ev (.tup (rgV 0 ws.length)) := ⟨_, rfl⟩
      rw [← hG] at hev sE ⊢
      have hnG := hn4.keep sE
      have obG := ob.keep sE
      have hHG := (hH3.keep s4).keep sE
      have s0G := (s03.trans s4).trans sE
      refine ⟨fun σ' H' => ∃ (v : V) (e : PyData) (w7 w8 : Option V), σ' = [some (.ref a), some (.ref hd), some (.int (0 + (i : Nat))), some (.ref q), some (.ref b), some (.ref ev), some v, w7, w8] ∧ Same G H' ∧ Th H' v e ∧ wdB 60 e = true, ?_, ?_⟩
      · refine ⟨_, rfl, hd, 2, rfl, by decide, by decide, hHG, fun z2 _ => ⟨rfl, _, rfl, ite2 (fun _ => ?_) (fun _ => ?_)⟩⟩
        · refine ⟨_, rfl, _, rfl, _, rfl, hd, q, ev, l, m, r, ws, ls, Kv.upTo ls.length, rfl, hHG, hnG, hev, by rw [upTo_len]; omega, fun z hz => upTo_mem.mp hz, fun t zs H5 s5 ht _ zl => ?_⟩
          exact ⟨_, _, _, _, rfl, s5, .tup ht (thInts zs) (by rw [List.length_map]; omega), intsWd (by omega)⟩
        · refine ⟨_, rfl, _, rfl, hd, q, l, m, r, ws, ls, rfl, hHG, hnG, fun t us ts H5 s5 ht hus tl htl => ⟨(by show 0 ≤ sizeLine; decide), fun e0 ne0 => ⟨(by show 1 ≤ sizeLine; decide), fun u nu => ?_⟩⟩⟩
          have se := sameNew (o := HO.tup []) ne0
          have su := sameNew (o := HO.tup [V.ref e0]) nu
          have seu := se.trans su
          have ul := hus.length
          rw [List.length_map] at ul
          refine catTup (seu _ _ ht) upd_same (by show us.length + 1 ≤ 10000; omega) fun t2 H6 s6 ht2 => ?_
          have s56 := seu.trans s6
          have all : ThAll H6 (us ++ [V.ref e0]) ((ts ++ [([] : List Int)]).map fun zs : List Int => PyData.tuple (zs.map PyData.int)) := by
            rw [List.map_append]
            exact (hus.keep s56).append (.cons (.tup ((su.trans s6) _ _ upd_same) .nil (by decide)) .nil)
          have pos : 0 < (us ++ [V.ref e0]).length := by rw [List.length_append]; show 0 < us.length + 1; omega
          obtain ⟨dd, hdd, hdt⟩ := all.get (List.getElem?_eq_getElem pos)
          rw [List.getElem?_map] at hdd
          obtain ⟨zs, hzs, rfl⟩ := Option.map_eq_some_iff.mp hdd
          refine ⟨t2, _, 0, _, rfl, rfl, SqT.of ht2, atI_at pos, ?_⟩
          refine ⟨_, _, _, _, rfl, s5.trans s56, hdt, intsWd ?_⟩
          rcases List.mem_append.mp (List.mem_of_getElem? hzs) with h | h
          · have := (htl zs h).1
            omega
          · rw [List.mem_singleton.mp h]
            decide
      · rintro σ' H' ⟨v, e, w7, w8, rfl, s5, hv, hw⟩
        refine ⟨5, rfl, by decide, by decide, for_range (lo := 0) (n := 5) (fun j σ3 H6 => ∃ (v : V) (e : PyData) (w7 w8 : Option V), σ3 = [some (.ref a), some (.ref hd), some (.int (0 + (i : Nat))), some (.ref q), some (.ref b), some (.ref ev), some v, w7, w8] ∧ Same G H6 ∧ Th H6 v e ∧ wdB (60 + j) e = true)
          ⟨v, e, w7, w8, rfl, s5, hv, hw⟩ ?_ ?_⟩
        · rintro j σ3 H6 hj ⟨v, e, w7, w8, rfl, s6, hv6, hw6⟩
          refine ⟨_, rfl, _, rfl, b, l, m, r, ws, ls, _, _, rfl, obG.keep s6, hv6, fun c1 H7 s7 hc1 => ?_⟩
          have s67 := s6.trans s7
          refine ⟨_, rfl, _, rfl, q, l, m, r, ws, ls, _, _, rfl, hnG.keep s67, hv6.keep s7, fun c2 H8 s8 hc2 => ?_⟩
          have e12 := boolIff hc1 hc2
          rw [e12]
          refine ⟨.bl c2, .bl c2, _, rfl, showsBl c2, showsBl c2, _, rfl, iteF ?_⟩
          have s68 := s67.trans s8
          have hv8 := (hv6.keep s7).keep s8
          refine ⟨_, rfl, _, rfl, q, l, m, r, ws, ls, _, _, rfl, hnG.keep s68, hv8, fun c3 H9 s9 hc3 => ?_⟩
          have s69 := s68.trans s9
          have hv9 := hv8.keep s9
          refine ⟨_, rfl, _, rfl, _, _, rfl, Or.inl ⟨b, l, m, r, ws, ls, _, rfl, obG.keep s69, hv9, fun c4 H10 s10 hc4 => ?_⟩⟩
          have e34 := boolIff hc4 hc3
          rw [e34]
          refine ⟨_, rfl, .bl c3, .bl c3, _, rfl, showsBl c3, showsBl c3, _, rfl, iteF ?_⟩
          have s610 := s69.trans s10
          have hv10 := hv9.keep s10
          have fin : ∀ H11, Same H10 H11 → (spBentA [.ref hd, .ref q, v] H11 (fun v' H' => ∃ (v : V) (e : PyData) (w7 w8 : Option V), [some (V.ref a), some (.ref hd), some (.int (0 + (i : Nat))), some (.ref q), some (.ref b), some (.ref ev), some v', some (.int (0 + (j : Nat))), some (.bl c3)] = [some (.ref a), some (.ref hd), some (.int (0 + (i : Nat))), some (.ref q), some (.ref b), some (.ref ev), some v, w7, w8] ∧ Same G H' ∧ Th H' v e ∧ wdB (60 + (j + 1)) e = true) E0) := fun H11 s11 => by
            have sA := s610.trans s11
            exact ⟨hd, q, l, m, r, ws, ls, v, e, 60 + j, rfl, hHG.keep sA, hnG.keep sA, hv10.keep s11, hw6, by omega, by omega, fun v' d' H12 s12 hv' hw' => ⟨_, _, _, _, rfl, sA.trans s12, hv', hw'⟩⟩
          refine ⟨_, rfl, _, rfl, b, l, m, r, ws, ls, _, _, rfl, obG.keep s610, hv10, fun no H11 s11 => ?_, fun zs ez g p hs H11 s11 hp up mem rg => ?_⟩
          · have cf : c3 = false := by
              cases c3 with
              | false => rfl
              | true => exact (no (hc3.mp rfl)).elim
            subst cf
            exact ⟨_, rfl, false, rfl, iteF ⟨.str "none", .str "none", _, rfl, showsNo, showsNo, _, rfl, iteF ⟨_, rfl, _, rfl, _, rfl, fin H11 s11⟩⟩⟩
          · have ct : c3 = true := hc3.mpr ⟨zs, ez, g⟩
            subst ct
            subst ez
            have zl : zs.length ≤ 70 := by
              have h1 := (wdTup.mp hw6).1
              rw [List.length_map] at h1
              omega
            obtain ⟨t, ex, ht⟩ : ∃ t, v = .ref t ∧ H11 t = some (.tup (zs.map V.int)) := by
              cases hv10 with
              | tup ha hs hl => exact ⟨_, rfl, s11 _ _ (by rw [← thInv hs]; exact ha)⟩
            subst ex
            refine ⟨_, rfl, true, rfl, iteT ⟨_, rfl, _, rfl, q, l, t, m, r, ws, ls, zs, rfl, hnG.keep (s610.trans s11), ht, g.rng, by omega, fun q2 os H12 s12 hq2 hperm hu => ?_⟩⟩
            have eo := heardSame g up mem hperm hu
            subst eo
            have ol : os.length ≤ 100 := by
              have h1 := hperm.length_eq
              rw [List.length_cons, List.length_map] at h1
              omega
            have og : ∀ i ∈ os, 0 ≤ i ∧ i ≤ 100 := fun i hi => by
              have := rg i hi
              omega
            exact ⟨.ref p, .ref q2, _, rfl, showsInts (s12 _ _ hp) ol og, showsInts hq2 ol og, _, rfl, iteF ⟨_, rfl, _, rfl, _, rfl, fin H12 (s11.trans s12)⟩⟩
        · rintro σ3 H6 ⟨v, e, w7, w8, rfl, s6, hv6, hw6⟩
          refine ⟨_, rfl, _, rfl, hd, q, l, m, r, ws, ls, rfl, hHG.keep s6, hnG.keep s6, fun t us ts H7 s7 ht hus tl htl => ?_⟩
          have s67 := s6.trans s7
          have ul := hus.length
          rw [List.length_map] at ul
          refine ⟨4, rfl, by decide, by decide, for_range (lo := 0) (n := 4) (fun j σ3 H8 => ∃ (v : V) (e : PyData) (w7 w8 : Option V), σ3 = [some (.ref a), some (.ref hd), some (.int (0 + (i : Nat))), some (.ref q), some (.ref b), some (.ref ev), some v, w7, w8] ∧ Same G H8 ∧ Th H8 v e ∧ wdB (60 + j) e = true)
            ⟨.ref t, PyData.tuple (ts.map fun zs : List Int => PyData.tuple (zs.map PyData.int)), w7, w8, rfl, s67, .tup ht hus (by omega), lotsWd (ts := ts) (fun zs hz => by have := (htl zs hz).1; omega) (by omega)⟩ ?_ ?_⟩
          · rintro j σ3 H8 hj ⟨v, e, w7, w8, rfl, s8, hv8, hw8⟩
            refine ⟨_, rfl, _, rfl, b, l, m, r, ws, ls, _, _, rfl, obG.keep s8, hv8, fun c1 H9 s9 hc1 => ?_⟩
            have s89 := s8.trans s9
            refine ⟨_, rfl, _, rfl, q, l, m, r, ws, ls, _, _, rfl, hnG.keep s89, hv8.keep s9, fun c2 H10 s10 hc2 => ?_⟩
            have e12 := boolIff hc1 hc2
            rw [e12]
            have sA := s89.trans s10
            refine ⟨.bl c2, .bl c2, _, rfl, showsBl c2, showsBl c2, _, rfl, iteF ?_⟩
            exact ⟨_, rfl, _, rfl, _, rfl, hd, q, l, m, r, ws, ls, v, e, 60 + j, rfl, hHG.keep sA, hnG.keep sA, (hv8.keep s9).keep s10, hw8, by omega, by omega, fun v' d' H12 s12 hv' hw' => ⟨_, _, _, _, rfl, sA.trans s12, hv', hw'⟩⟩
          · rintro σ3 H8 ⟨v, e, w7, w8, rfl, s8, hv8, hw8⟩
            exact ⟨_, _, _, _, _, _, _, rfl, s0G.trans s8⟩
    · rintro σ2 H2 ⟨v2, v3, v4, v5, v6, v7, v8, rfl, s2⟩
      exact k H2
end
end K06
namespace K06
open PySem PySem.Spec PyProof.Rows L2 Kv
/-- a class over ValueError with an __init__ of its own, by its object -/
def oexB (K : PySem.W.Frag) (C : Addr) : Bool := (match K.lookup C with
  | some ⟨.type "type", _, .cls cd, sl⟩ => (match cd.mro, sl.toList with
    | .ref C2 :: bm, [_, _, _, _, some (.builtin n), _] => C2 == C && (n == "ValueError.__new__" && (cd.hasDict && (!cd.hasDel && PySem.HandSPX.refsVE bm)))
    | _, _ => false)
  | _ => false) && (decide (PySem.W.findIn K (.ref C) "__setattr__" = some (some (.builtin "object.__setattr__"))) && (decide (PySem.W.subIn K (.ref C) (.type "BaseException") = some true) && (decide (PySem.W.typeIn K (.ref C) = some (.type "type")) && PySem.W.keepIn K (.ref C))))
theorem oexB_ok {K : PySem.W.Frag} {C : Addr} (h : oexB K C = true) : OexC K C := by
  unfold oexB at h
  obtain ⟨h1, h⟩ := Bool.and_eq_true_iff.mp h
  obtain ⟨h2, h⟩ := Bool.and_eq_true_iff.mp h
  obtain ⟨h3, h⟩ := Bool.and_eq_true_iff.mp h
  obtain ⟨h4, h5⟩ := Bool.and_eq_true_iff.mp h
  refine ⟨?_, of_decide_eq_true h2, of_decide_eq_true h3, of_decide_eq_true h4, h5⟩
  split at h1
  · rename_i dd cd sl ho
    split at h1
    · rename_i C2 bm k0 k1 k2 k3 n k5 hm hs
      simp only [Bool.and_eq_true, beq_iff_eq, Bool.not_eq_true'] at h1
      obtain ⟨e1, e2, e3, e4, e5⟩ := h1
      obtain ⟨nm, bs, mro, nsp, qn, hd, sn, sub, ab, col, del⟩ := cd
      obtain ⟨l⟩ := sl
      dsimp only at hm hs e3 e4
      subst hm hs e1 e2 e3 e4
      exact ⟨nm, qn, nsp, bs, bm, sn, sub, ab, col, dd, k0, k1, k2, k3, k5, ho, e5⟩
    · cases h1
  · cases h1
def ciB (K : PySem.W.Frag) (p : Str × Str) : Bool := oexB K (He.ga K p.1) && (xfB K (He.ga K p.1) && (He.eqO (PySem.W.findIn K (.ref (He.ga K p.1)) "__init__") (some (some (.ref (He.ma K (He.ga K p.1) "__init__")))) && (decide (PySem.W.typeIn K (.ref (He.ma K (He.ga K p.1) "__init__")) = some (.type "function")) && He.eqO (PySem.W.findIn K (.ref (He.ga K p.1)) p.2) (some none))))
theorem ciB_ok {K : PySem.W.Frag} {x f : Str} (h : ciB K (x, f) = true) : CI K x f (He.ma K (He.ga K x) "__init__") := by
  obtain ⟨h1, h⟩ := Bool.and_eq_true_iff.mp h
  obtain ⟨h2, h⟩ := Bool.and_eq_true_iff.mp h
  obtain ⟨h3, h⟩ := Bool.and_eq_true_iff.mp h
  obtain ⟨h4, h5⟩ := Bool.and_eq_true_iff.mp h
  exact ⟨oexB_ok h1, xfB_ok h2, He.eqO_ok h3, of_decide_eq_true h4, He.eqO_ok h5⟩
def ex_ci (K : PySem.W.Frag) : Bool := ciB K ("BadNet", "part")
def ex_ca (K : PySem.W.Frag) : Bool := decide (PySem.W.findIn K (.ref (He.ga K "Net")) "__class__" = some (some (.builtin "object.__class__")))
def ex_cn (K : PySem.W.Frag) : Bool := decide (PySem.W.specialIn K (.builtin "object.__class__") "__get__" = some (some (.builtin "getset_descriptor.__get__")))
def ex_ct (K : PySem.W.Frag) : Bool := decide (PySem.W.takesIn K (.builtin "object.__class__") = some true)
def ex_cm (K : PySem.W.Frag) : Bool := decide (PySem.W.mroIn K (He.ga K "Net") (.type "object") = some true)
def ex_kit (K : PySem.W.Frag) : Bool := tyNames.all fun t => decide (PySem.W.kitOne K (.type t) (.ref (He.ga K "Net")) = some false)
def ex_er (K : PySem.W.Frag) : Bool := errB K (He.ga K "NoGrown")
def ex_kT (K : PySem.W.Frag) : Bool := decide (PySem.W.kitOne K (.ref (He.ga K "NoGrown")) (.ref (He.ga K "TreeError")) = some true)
def ex (K : PySem.W.Frag) : Bool := ex_ci K && (ex_ca K && (ex_cn K && (ex_ct K && (ex_cm K && (ex_kit K && (ex_er K && (ex_kT K)))))))
def fn : List He.DefD := [⟨("is_integer", none), "is_integer", "is_integer", defArgs sis_integer, defBody sis_integer, defScope sis_integer, [], []⟩,
  ⟨("is_between", none), "is_between", "is_between", defArgs sis_between, defBody sis_between, defScope sis_between, [], []⟩,
  ⟨("is_lot", none), "is_lot", "is_lot", defArgs sis_lot, defBody sis_lot, defScope sis_lot, [], []⟩,
  ⟨("is_unlike_pair", none), "is_unlike_pair", "is_unlike_pair", defArgs sis_unlike_pair, defBody sis_unlike_pair, defScope sis_unlike_pair, [], []⟩,
  ⟨("share_none", none), "share_none", "share_none", defArgs sshare_none, defBody sshare_none, defScope sshare_none, [], []⟩,
  ⟨("need_net", none), "need_net", "need_net", defArgs sneed_net, defBody sneed_net, defScope sneed_net, [], []⟩,
  ⟨("heard_from", none), "heard_from", "heard_from", defArgs sheard_from, defBody sheard_from, defScope sheard_from, [], []⟩,
  ⟨("grows_from", none), "grows_from", "grows_from", defArgs sgrows_from, defBody sgrows_from, defScope sgrows_from, [], []⟩,
  ⟨("is_wood", none), "is_wood", "is_wood", defArgs sis_wood, defBody sis_wood, defScope sis_wood, [], []⟩,
  ⟨("is_tree", none), "is_tree", "is_tree", defArgs sis_tree, defBody sis_tree, defScope sis_tree, [], []⟩,
  ⟨("is_packing", none), "is_packing", "is_packing", defArgs sis_packing, defBody sis_packing, defScope sis_packing, [], []⟩,
  ⟨("is_grown", none), "is_grown", "is_grown", defArgs sis_grown, defBody sis_grown, defScope sis_grown, [], []⟩,
  ⟨("heard_places", none), "heard_places", "heard_places", defArgs sheard_places, defBody sheard_places, defScope sheard_places, [], []⟩,
  ⟨("heard_by", none), "heard_by", "heard_by", defArgs sheard_by, defBody sheard_by, defScope sheard_by, [], []⟩,
  ⟨("_law_hand", none), "_law_hand", "_law_hand", defArgs s_law_hand, defBody s_law_hand, defScope s_law_hand, [], []⟩,
  ⟨("_law_draw", none), "_law_draw", "_law_draw", defArgs s_law_draw, defBody s_law_draw, defScope s_law_draw, [], []⟩,
  ⟨("_law_any", none), "_law_any", "_law_any", defArgs s_law_any, defBody s_law_any, defScope s_law_any, [], []⟩,
  ⟨("_law_is_int", none), "_law_is_int", "_law_is_int", defArgs s_law_is_int, defBody s_law_is_int, defScope s_law_is_int, [], []⟩,
  ⟨("_law_deep", none), "_law_deep", "_law_deep", defArgs s_law_deep, defBody s_law_deep, defScope s_law_deep, [], []⟩,
  ⟨("_law_odd", none), "_law_odd", "_law_odd", defArgs s_law_odd, defBody s_law_odd, defScope s_law_odd, [], []⟩,
  ⟨("_law_is_lot", none), "_law_is_lot", "_law_is_lot", defArgs s_law_is_lot, defBody s_law_is_lot, defScope s_law_is_lot, [], []⟩,
  ⟨("_law_turned", none), "_law_turned", "_law_turned", defArgs s_law_turned, defBody s_law_turned, defScope s_law_turned, [], []⟩,
  ⟨("_law_link", none), "_law_link", "_law_link", defArgs s_law_link, defBody s_law_link, defScope s_law_link, [], []⟩,
  ⟨("_law_grown_links", none), "_law_grown_links", "_law_grown_links", defArgs s_law_grown_links, defBody s_law_grown_links, defScope s_law_grown_links, [], []⟩,
  ⟨("_law_drawn", none), "_law_drawn", "_law_drawn", defArgs s_law_drawn, defBody s_law_drawn, defScope s_law_drawn, [], []⟩,
  ⟨("_law_made", none), "_law_made", "_law_made", defArgs s_law_made, defBody s_law_made, defScope s_law_made, [], []⟩,
  ⟨("_law_reached", none), "_law_reached", "_law_reached", defArgs s_law_reached, defBody s_law_reached, defScope s_law_reached, [], []⟩,
  ⟨("_law_is_grown", none), "_law_is_grown", "_law_is_grown", defArgs s_law_is_grown, defBody s_law_is_grown, defScope s_law_is_grown, [], []⟩,
  ⟨("_law_heard", none), "_law_heard", "_law_heard", defArgs s_law_heard, defBody s_law_heard, defScope s_law_heard, [], []⟩,
  ⟨("_law_is_tree", none), "_law_is_tree", "_law_is_tree", defArgs s_law_is_tree, defBody s_law_is_tree, defScope s_law_is_tree, [], []⟩,
  ⟨("_law_is_packing", none), "_law_is_packing", "_law_is_packing", defArgs s_law_is_packing, defBody s_law_is_packing, defScope s_law_is_packing, [], []⟩,
  ⟨("_law_part", none), "_law_part", "_law_part", defArgs s_law_part, defBody s_law_part, defScope s_law_part, [], []⟩,
  ⟨("_law_is", none), "_law_is", "_law_is", defArgs s_law_is, defBody s_law_is, defScope s_law_is, [], []⟩,
  ⟨("_law_bent", none), "_law_bent", "_law_bent", defArgs s_law_bent, defBody s_law_bent, defScope s_law_bent, [], []⟩,
  ⟨("_law_heard_word", none), "_law_heard_word", "_law_heard_word", defArgs s_law_heard_word, defBody s_law_heard_word, defScope s_law_heard_word, [], []⟩,
  ⟨("_law_apart", none), "_law_apart", "_law_apart", defArgs s_law_apart, defBody s_law_apart, defScope s_law_apart, [], []⟩,
  ⟨("_law_bent_packing", none), "_law_bent_packing", "_law_bent_packing", defArgs s_law_bent_packing, defBody s_law_bent_packing, defScope s_law_bent_packing, [], []⟩,
  ⟨("law", none), "law", "law", defArgs slaw, defBody slaw, defScope slaw, [], []⟩,
  ⟨("BadNet", some "__init__"), "__init__", "BadNet.__init__", defArgs sBadNet___init__, defBody sBadNet___init__, defScope sBadNet___init__, [], []⟩,
  ⟨("Net", some "__init__"), "__init__", "Net.__init__", defArgs sNet___init__, defBody sNet___init__, defScope sNet___init__, [], []⟩,
  ⟨("Net", some "__eq__"), "__eq__", "Net.__eq__", defArgs sNet___eq__, defBody sNet___eq__, defScope sNet___eq__, [], []⟩]
def glos : List Str := (["is_integer", "is_between", "is_lot", "is_unlike_pair", "share_none", "need_net", "heard_from", "grows_from", "is_wood", "is_tree", "is_packing", "is_grown", "heard_places", "heard_by", "_law_hand"] : List Str) ++ (["_law_draw", "_law_any", "_law_is_int", "_law_deep", "_law_odd", "_law_is_lot", "_law_turned", "_law_link", "_law_grown_links", "_law_drawn", "_law_made", "_law_reached", "_law_is_grown", "_law_heard", "_law_is_tree"] : List Str) ++ (["_law_is_packing", "_law_part", "_law_is", "_law_bent", "_law_heard_word", "_law_apart", "_law_bent_packing", "law", "TreeError", "NoNet", "NoGrown", "BadNet", "Net"] : List Str)
def frs : List Str := (["abs", "int", "len", "range", "isinstance", "list", "tuple", "dict", "all", "enumerate", "repr", "bool", "max", "min", "sorted"] : List Str) ++ (["set", "sum", "zip"] : List Str)
def fa0 : List He.Fa := [.int "FEWEST_PLACES" 2, .int "MOST_PLACES" 10, .int "MOST_LINKS" 60, .cls "Net", .noat "Net" "many", .noat "Net" "root", .noat "Net" "links", .mkr "Net", .exc "NoNet", .exc "NoGrown", .exm "NoGrown" "NoGrown" true]
def fa : List He.Fa := fa0 ++ (glos.map He.Fa.glo ++ frs.map He.Fa.free)
def tf : List He.Defn := []
abbrev R : PySem.W.OpenRow := PySem.W.OpenLaw.row PySem.Challenge.rw_sparetrees_k06_whole_trees_packings_and
abbrev hk : PySem.W.Hook := He.hookX 4 fa fn [] tf ex
def ob (s : PySem.W.SharedT) : He.AlX := He.obsX 4 fa fn [] tf ex (HandSHeadRun.getT s)
theorem ob_eq (s : PySem.W.SharedT) : ob s = hk.obs s.abs := He.obsX_eq (HandSHeadRun.getT_eq s)
def others : List Str := (["is_integer", "is_between", "is_lot", "is_unlike_pair", "share_none", "need_net", "heard_from", "grows_from", "is_wood", "is_tree", "is_packing", "is_grown", "heard_places", "heard_by", "_law_hand"] : List Str) ++ (["_law_draw", "_law_any", "_law_is_int", "_law_deep", "_law_odd", "_law_is_lot", "_law_turned", "_law_link", "_law_grown_links", "_law_drawn", "_law_made", "_law_reached", "_law_is_grown", "_law_heard", "_law_is_tree"] : List Str) ++ (["_law_is_packing", "_law_part", "_law_is", "_law_bent", "_law_heard_word", "_law_apart", "_law_bent_packing", "TreeError", "NoNet", "NoGrown", "BadNet", "Net", "FEWEST_PLACES", "MOST_PLACES", "MOST_LINKS"] : List Str)
theorem run (w : World) : HandSHeadRun.RunEq R (PySem.W.view R.prog [50]) hk ob 40000 others w := by
  intro os
  kernel_rfl
end K06
namespace K06
open PySem PySem.Spec PyProof.Rows L2 Kv
theorem facts {P : Program} {w : World} {K : PySem.W.Frag} {h : Heap} {mg : Str → Option Value} {f : Addr} (X : K.In h) (G : h.Ns mainGlobals mg) (hfa : mg ("law" : Str) = some (.ref f)) (c : He.SaysX fa fn [] tf ex w h K) :
    ∃ fd : FuncData, (∀ (s : Shared) (v : Value), BindsTo s fd ⟨[v], []⟩ [("_law_script", v)]) ∧ ∀ base : Heap, K.In base → base.Ns mainGlobals mg → (∀ p ∈ tf, LamX.TabB base mg (He.cT K p).1 (He.cT K p).2) → FnG P w K mg base 14 f fd ["_law_script"] (spLaw K) := by
  have d := c.t.d
  have in0 : ∀ {z : He.Fa}, z ∈ fa0 → z ∈ fa := fun m => List.mem_append_left _ m
  have glo : ∀ x : Str, x ∈ glos → mg x = some (.ref (He.ga K x)) := fun x m => He.glo_ok X G (d.facts (List.mem_append_right _ (List.mem_append_left _ (List.mem_map_of_mem m))))
  have fre : ∀ x : Str, x ∈ frs → mg x = none := fun x m => He.free_ok X G (d.facts (List.mem_append_right _ (List.mem_append_right _ (List.mem_map_of_mem m))))
  obtain ⟨fd0, F0⟩ := d.def_ 0 (d := fn.getD 0 ⟨("", none), "", "", defArgs slaw, [], defScope slaw, [], []⟩) rfl
  obtain ⟨fd1, F1⟩ := d.def_ 1 (d := fn.getD 1 ⟨("", none), "", "", defArgs slaw, [], defScope slaw, [], []⟩) rfl
  obtain ⟨fd2, F2⟩ := d.def_ 2 (d := fn.getD 2 ⟨("", none), "", "", defArgs slaw, [], defScope slaw, [], []⟩) rfl
  obtain ⟨fd3, F3⟩ := d.def_ 3 (d := fn.getD 3 ⟨("", none), "", "", defArgs slaw, [], defScope slaw, [], []⟩) rfl
  obtain ⟨fd4, F4⟩ := d.def_ 4 (d := fn.getD 4 ⟨("", none), "", "", defArgs slaw, [], defScope slaw, [], []⟩) rfl
  obtain ⟨fd5, F5⟩ := d.def_ 5 (d := fn.getD 5 ⟨("", none), "", "", defArgs slaw, [], defScope slaw, [], []⟩) rfl
  obtain ⟨fd6, F6⟩ := d.def_ 6 (d := fn.getD 6 ⟨("", none), "", "", defArgs slaw, [], defScope slaw, [], []⟩) rfl
  obtain ⟨fd7, F7⟩ := d.def_ 7 (d := fn.getD 7 ⟨("", none), "", "", defArgs slaw, [], defScope slaw, [], []⟩) rfl
  obtain ⟨fd8, F8⟩ := d.def_ 8 (d := fn.getD 8 ⟨("", none), "", "", defArgs slaw, [], defScope slaw, [], []⟩) rfl
  obtain ⟨fd9, F9⟩ := d.def_ 9 (d := fn.getD 9 ⟨("", none), "", "", defArgs slaw, [], defScope slaw, [], []⟩) rfl
  obtain ⟨fd10, F10⟩ := d.def_ 10 (d := fn.getD 10 ⟨("", none), "", "", defArgs slaw, [], defScope slaw, [], []⟩) rfl
  obtain ⟨fd11, F11⟩ := d.def_ 11 (d := fn.getD 11 ⟨("", none), "", "", defArgs slaw, [], defScope slaw, [], []⟩) rfl
  obtain ⟨fd12, F12⟩ := d.def_ 12 (d := fn.getD 12 ⟨("", none), "", "", defArgs slaw, [], defScope slaw, [], []⟩) rfl
  obtain ⟨fd13, F13⟩ := d.def_ 13 (d := fn.getD 13 ⟨("", none), "", "", defArgs slaw, [], defScope slaw, [], []⟩) rfl
  obtain ⟨fd14, F14⟩ := d.def_ 14 (d := fn.getD 14 ⟨("", none), "", "", defArgs slaw, [], defScope slaw, [], []⟩) rfl
  obtain ⟨fd15, F15⟩ := d.def_ 15 (d := fn.getD 15 ⟨("", none), "", "", defArgs slaw, [], defScope slaw, [], []⟩) rfl
  obtain ⟨fd16, F16⟩ := d.def_ 16 (d := fn.getD 16 ⟨("", none), "", "", defArgs slaw, [], defScope slaw, [], []⟩) rfl
  obtain ⟨fd17, F17⟩ := d.def_ 17 (d := fn.getD 17 ⟨("", none), "", "", defArgs slaw, [], defScope slaw, [], []⟩) rfl
  obtain ⟨fd18, F18⟩ := d.def_ 18 (d := fn.getD 18 ⟨("", none), "", "", defArgs slaw, [], defScope slaw, [], []⟩) rfl
  obtain ⟨fd19, F19⟩ := d.def_ 19 (d := fn.getD 19 ⟨("", none), "", "", defArgs slaw, [], defScope slaw, [], []⟩) rfl
  obtain ⟨fd20, F20⟩ := d.def_ 20 (d := fn.getD 20 ⟨("", none), "", "", defArgs slaw, [], defScope slaw, [], []⟩) rfl
  obtain ⟨fd21, F21⟩ := d.def_ 21 (d := fn.getD 21 ⟨("", none), "", "", defArgs slaw, [], defScope slaw, [], []⟩) rfl
  obtain ⟨fd22, F22⟩ := d.def_ 22 (d := fn.getD 22 ⟨("", none), "", "", defArgs slaw, [], defScope slaw, [], []⟩) rfl
  obtain ⟨fd23, F23⟩ := d.def_ 23 (d := fn.getD 23 ⟨("", none), "", "", defArgs slaw, [], defScope slaw, [], []⟩) rfl
  obtain ⟨fd24, F24⟩ := d.def_ 24 (d := fn.getD 24 ⟨("", none), "", "", defArgs slaw, [], defScope slaw, [], []⟩) rfl
  obtain ⟨fd25, F25⟩ := d.def_ 25 (d := fn.getD 25 ⟨("", none), "", "", defArgs slaw, [], defScope slaw, [], []⟩) rfl
  obtain ⟨fd26, F26⟩ := d.def_ 26 (d := fn.getD 26 ⟨("", none), "", "", defArgs slaw, [], defScope slaw, [], []⟩) rfl
  obtain ⟨fd27, F27⟩ := d.def_ 27 (d := fn.getD 27 ⟨("", none), "", "", defArgs slaw, [], defScope slaw, [], []⟩) rfl
  obtain ⟨fd28, F28⟩ := d.def_ 28 (d := fn.getD 28 ⟨("", none), "", "", defArgs slaw, [], defScope slaw, [], []⟩) rfl
  obtain ⟨fd29, F29⟩ := d.def_ 29 (d := fn.getD 29 ⟨("", none), "", "", defArgs slaw, [], defScope slaw, [], []⟩) rfl
  obtain ⟨fd30, F30⟩ := d.def_ 30 (d := fn.getD 30 ⟨("", none), "", "", defArgs slaw, [], defScope slaw, [], []⟩) rfl
  obtain ⟨fd31, F31⟩ := d.def_ 31 (d := fn.getD 31 ⟨("", none), "", "", defArgs slaw, [], defScope slaw, [], []⟩) rfl
  obtain ⟨fd32, F32⟩ := d.def_ 32 (d := fn.getD 32 ⟨("", none), "", "", defArgs slaw, [], defScope slaw, [], []⟩) rfl
  obtain ⟨fd33, F33⟩ := d.def_ 33 (d := fn.getD 33 ⟨("", none), "", "", defArgs slaw, [], defScope slaw, [], []⟩) rfl
  obtain ⟨fd34, F34⟩ := d.def_ 34 (d := fn.getD 34 ⟨("", none), "", "", defArgs slaw, [], defScope slaw, [], []⟩) rfl
  obtain ⟨fd35, F35⟩ := d.def_ 35 (d := fn.getD 35 ⟨("", none), "", "", defArgs slaw, [], defScope slaw, [], []⟩) rfl
  obtain ⟨fd36, F36⟩ := d.def_ 36 (d := fn.getD 36 ⟨("", none), "", "", defArgs slaw, [], defScope slaw, [], []⟩) rfl
  obtain ⟨fd37, F37⟩ := d.def_ 37 (d := fn.getD 37 ⟨("", none), "", "", defArgs slaw, [], defScope slaw, [], []⟩) rfl
  obtain ⟨fd38, F38⟩ := d.def_ 38 (d := fn.getD 38 ⟨("", none), "", "", defArgs slaw, [], defScope slaw, [], []⟩) rfl
  obtain ⟨fd39, F39⟩ := d.def_ 39 (d := fn.getD 39 ⟨("", none), "", "", defArgs slaw, [], defScope slaw, [], []⟩) rfl
  obtain ⟨fd40, F40⟩ := d.def_ 40 (d := fn.getD 40 ⟨("", none), "", "", defArgs slaw, [], defScope slaw, [], []⟩) rfl
  let D : Dn K mg := {
    f_is_integer := He.ga K "is_integer", fd_is_integer := fd0,
    D_is_integer := ⟨F0, glo "is_integer" (by decide +kernel), FunD.bindsN (ps := ["thing"]) F0 fun _ _ _ _ _ _ us hl => match us, hl with | [_], _ => rfl⟩,
    f_is_between := He.ga K "is_between", fd_is_between := fd1,
    D_is_between := ⟨F1, glo "is_between" (by decide +kernel), FunD.bindsN (ps := ["thing", "least", "most"]) F1 fun _ _ _ _ _ _ us hl => match us, hl with | [_, _, _], _ => rfl⟩,
    f_is_lot := He.ga K "is_lot", fd_is_lot := fd2,
    D_is_lot := ⟨F2, glo "is_lot" (by decide +kernel), FunD.bindsN (ps := ["thing", "bound"]) F2 fun _ _ _ _ _ _ us hl => match us, hl with | [_, _], _ => rfl⟩,
    f_is_unlike_pair := He.ga K "is_unlike_pair", fd_is_unlike_pair := fd3,
    D_is_unlike_pair := ⟨F3, glo "is_unlike_pair" (by decide +kernel), FunD.bindsN (ps := ["thing", "bound"]) F3 fun _ _ _ _ _ _ us hl => match us, hl with | [_, _], _ => rfl⟩,
    f_share_none := He.ga K "share_none", fd_share_none := fd4,
    D_share_none := ⟨F4, glo "share_none" (by decide +kernel), FunD.bindsN (ps := ["lots"]) F4 fun _ _ _ _ _ _ us hl => match us, hl with | [_], _ => rfl⟩,
    f_need_net := He.ga K "need_net", fd_need_net := fd5,
    D_need_net := ⟨F5, glo "need_net" (by decide +kernel), FunD.bindsN (ps := ["thing"]) F5 fun _ _ _ _ _ _ us hl => match us, hl with | [_], _ => rfl⟩,
    f_heard_from := He.ga K "heard_from", fd_heard_from := fd6,
    D_heard_from := ⟨F6, glo "heard_from" (by decide +kernel), FunD.bindsN (ps := ["net", "begun", "links"]) F6 fun _ _ _ _ _ _ us hl => match us, hl with | [_, _, _], _ => rfl⟩,
    f_grows_from := He.ga K "grows_from", fd_grows_from := fd7,
    D_grows_from := ⟨F7, glo "grows_from" (by decide +kernel), FunD.bindsN (ps := ["net", "begun", "thing"]) F7 fun _ _ _ _ _ _ us hl => match us, hl with | [_, _, _], _ => rfl⟩,
    f_is_wood := He.ga K "is_wood", fd_is_wood := fd8,
    D_is_wood := ⟨F8, glo "is_wood" (by decide +kernel), FunD.bindsN (ps := ["net", "begun", "thing"]) F8 fun _ _ _ _ _ _ us hl => match us, hl with | [_, _, _], _ => rfl⟩,
    f_is_tree := He.ga K "is_tree", fd_is_tree := fd9,
    D_is_tree := ⟨F9, glo "is_tree" (by decide +kernel), FunD.bindsN (ps := ["net", "thing"]) F9 fun _ _ _ _ _ _ us hl => match us, hl with | [_, _], _ => rfl⟩,
    f_is_packing := He.ga K "is_packing", fd_is_packing := fd10,
    D_is_packing := ⟨F10, glo "is_packing" (by decide +kernel), FunD.bindsN (ps := ["net", "thing"]) F10 fun _ _ _ _ _ _ us hl => match us, hl with | [_, _], _ => rfl⟩,
    f_is_grown := He.ga K "is_grown", fd_is_grown := fd11,
    D_is_grown := ⟨F11, glo "is_grown" (by decide +kernel), FunD.bindsN (ps := ["net", "thing"]) F11 fun _ _ _ _ _ _ us hl => match us, hl with | [_, _], _ => rfl⟩,
    f_heard_places := He.ga K "heard_places", fd_heard_places := fd12,
    D_heard_places := ⟨F12, glo "heard_places" (by decide +kernel), FunD.bindsN (ps := ["net", "grown"]) F12 fun _ _ _ _ _ _ us hl => match us, hl with | [_, _], _ => rfl⟩,
    f_heard_by := He.ga K "heard_by", fd_heard_by := fd13,
    D_heard_by := ⟨F13, glo "heard_by" (by decide +kernel), FunD.bindsN (ps := ["net", "grown"]) F13 fun _ _ _ _ _ _ us hl => match us, hl with | [_, _], _ => rfl⟩,
    f_hand := He.ga K "_law_hand", fd_hand := fd14,
    D_hand := ⟨F14, glo "_law_hand" (by decide +kernel), FunD.bindsN (ps := ["_law_script"]) F14 fun _ _ _ _ _ _ us hl => match us, hl with | [_], _ => rfl⟩,
    f_draw := He.ga K "_law_draw", fd_draw := fd15,
    D_draw := ⟨F15, glo "_law_draw" (by decide +kernel), FunD.bindsN (ps := ["_law_hand_here", "_law_many"]) F15 fun _ _ _ _ _ _ us hl => match us, hl with | [_, _], _ => rfl⟩,
    f_any := He.ga K "_law_any", fd_any := fd16,
    D_any := ⟨F16, glo "_law_any" (by decide +kernel), FunD.bindsN (ps := ["_law_hand_here", "_law_some"]) F16 fun _ _ _ _ _ _ us hl => match us, hl with | [_, _], _ => rfl⟩,
    f_is_int := He.ga K "_law_is_int", fd_is_int := fd17,
    D_is_int := ⟨F17, glo "_law_is_int" (by decide +kernel), FunD.bindsN (ps := ["_law_thing", "_law_least", "_law_most"]) F17 fun _ _ _ _ _ _ us hl => match us, hl with | [_, _, _], _ => rfl⟩,
    f_deep := He.ga K "_law_deep", fd_deep := fd18,
    D_deep := ⟨F18, glo "_law_deep" (by decide +kernel), FunD.bindsN (ps := ["_law_hand_here"]) F18 fun _ _ _ _ _ _ us hl => match us, hl with | [_], _ => rfl⟩,
    f_odd := He.ga K "_law_odd", fd_odd := fd19,
    D_odd := ⟨F19, glo "_law_odd" (by decide +kernel), FunD.bindsN (ps := ["_law_hand_here", "_law_thing"]) F19 fun _ _ _ _ _ _ us hl => match us, hl with | [_, _], _ => rfl⟩,
    f_l_is_lot := He.ga K "_law_is_lot", fd_l_is_lot := fd20,
    D_l_is_lot := ⟨F20, glo "_law_is_lot" (by decide +kernel), FunD.bindsN (ps := ["_law_thing", "_law_many"]) F20 fun _ _ _ _ _ _ us hl => match us, hl with | [_, _], _ => rfl⟩,
    f_turned := He.ga K "_law_turned", fd_turned := fd21,
    D_turned := ⟨F21, glo "_law_turned" (by decide +kernel), FunD.bindsN (ps := ["_law_hand_here", "_law_things"]) F21 fun _ _ _ _ _ _ us hl => match us, hl with | [_, _], _ => rfl⟩,
    f_link := He.ga K "_law_link", fd_link := fd22,
    D_link := ⟨F22, glo "_law_link" (by decide +kernel), FunD.bindsN (ps := ["_law_hand_here", "_law_many"]) F22 fun _ _ _ _ _ _ us hl => match us, hl with | [_, _], _ => rfl⟩,
    f_grown_links := He.ga K "_law_grown_links", fd_grown_links := fd23,
    D_grown_links := ⟨F23, glo "_law_grown_links" (by decide +kernel), FunD.bindsN (ps := ["_law_hand_here", "_law_many", "_law_root"]) F23 fun _ _ _ _ _ _ us hl => match us, hl with | [_, _, _], _ => rfl⟩,
    f_drawn := He.ga K "_law_drawn", fd_drawn := fd24,
    D_drawn := ⟨F24, glo "_law_drawn" (by decide +kernel), FunD.bindsN (ps := ["_law_hand_here", "_law_most", "_law_trees", "_law_more"]) F24 fun _ _ _ _ _ _ us hl => match us, hl with | [_, _, _, _], _ => rfl⟩,
    f_made := He.ga K "_law_made", fd_made := fd25,
    D_made := ⟨F25, glo "_law_made" (by decide +kernel), FunD.bindsN (ps := ["_law_net"]) F25 fun _ _ _ _ _ _ us hl => match us, hl with | [_], _ => rfl⟩,
    f_reached := He.ga K "_law_reached", fd_reached := fd26,
    D_reached := ⟨F26, glo "_law_reached" (by decide +kernel), FunD.bindsN (ps := ["_law_net", "_law_lot", "_law_places"]) F26 fun _ _ _ _ _ _ us hl => match us, hl with | [_, _, _], _ => rfl⟩,
    f_l_is_grown := He.ga K "_law_is_grown", fd_l_is_grown := fd27,
    D_l_is_grown := ⟨F27, glo "_law_is_grown" (by decide +kernel), FunD.bindsN (ps := ["_law_net", "_law_thing"]) F27 fun _ _ _ _ _ _ us hl => match us, hl with | [_, _], _ => rfl⟩,
    f_heard := He.ga K "_law_heard", fd_heard := fd28,
    D_heard := ⟨F28, glo "_law_heard" (by decide +kernel), FunD.bindsN (ps := ["_law_net", "_law_grown"]) F28 fun _ _ _ _ _ _ us hl => match us, hl with | [_, _], _ => rfl⟩,
    f_l_is_tree := He.ga K "_law_is_tree", fd_l_is_tree := fd29,
    D_l_is_tree := ⟨F29, glo "_law_is_tree" (by decide +kernel), FunD.bindsN (ps := ["_law_net", "_law_thing"]) F29 fun _ _ _ _ _ _ us hl => match us, hl with | [_, _], _ => rfl⟩,
    f_l_is_packing := He.ga K "_law_is_packing", fd_l_is_packing := fd30,
    D_l_is_packing := ⟨F30, glo "_law_is_packing" (by decide +kernel), FunD.bindsN (ps := ["_law_net", "_law_thing"]) F30 fun _ _ _ _ _ _ us hl => match us, hl with | [_, _], _ => rfl⟩,
    f_part := He.ga K "_law_part", fd_part := fd31,
    D_part := ⟨F31, glo "_law_part" (by decide +kernel), FunD.bindsN (ps := ["_law_hand_here", "_law_net", "_law_lot"]) F31 fun _ _ _ _ _ _ us hl => match us, hl with | [_, _, _], _ => rfl⟩,
    f_is := He.ga K "_law_is", fd_is := fd32,
    D_is := ⟨F32, glo "_law_is" (by decide +kernel), FunD.bindsN (ps := ["_law_told", "_law_due"]) F32 fun _ _ _ _ _ _ us hl => match us, hl with | [_, _], _ => rfl⟩,
    f_bent := He.ga K "_law_bent", fd_bent := fd33,
    D_bent := ⟨F33, glo "_law_bent" (by decide +kernel), FunD.bindsN (ps := ["_law_hand_here", "_law_net", "_law_thing"]) F33 fun _ _ _ _ _ _ us hl => match us, hl with | [_, _, _], _ => rfl⟩,
    f_heard_word := He.ga K "_law_heard_word", fd_heard_word := fd34,
    D_heard_word := ⟨F34, glo "_law_heard_word" (by decide +kernel), FunD.bindsN (ps := ["_law_made_here", "_law_thing"]) F34 fun _ _ _ _ _ _ us hl => match us, hl with | [_, _], _ => rfl⟩,
    f_apart := He.ga K "_law_apart", fd_apart := fd35,
    D_apart := ⟨F35, glo "_law_apart" (by decide +kernel), FunD.bindsN (ps := ["_law_hand_here", "_law_net"]) F35 fun _ _ _ _ _ _ us hl => match us, hl with | [_, _], _ => rfl⟩,
    f_bent_packing := He.ga K "_law_bent_packing", fd_bent_packing := fd36,
    D_bent_packing := ⟨F36, glo "_law_bent_packing" (by decide +kernel), FunD.bindsN (ps := ["_law_hand_here", "_law_net", "_law_thing"]) F36 fun _ _ _ _ _ _ us hl => match us, hl with | [_, _, _], _ => rfl⟩,
    f_law := He.ga K "law", fd_law := fd37,
    D_law := ⟨F37, glo "law" (by decide +kernel), FunD.bindsN (ps := ["_law_script"]) F37 fun _ _ _ _ _ _ us hl => match us, hl with | [_], _ => rfl⟩,
    f_BadNet___init__ := He.ma K (He.ga K "BadNet") "__init__", fd_BadNet___init__ := fd38,
    D_BadNet___init__ := F38, b_BadNet___init__ := (FunD.bindsN (ps := ["self", "part"]) F38 fun _ _ _ _ _ _ us hl => match us, hl with | [_, _], _ => rfl),
    f_Net___init__ := He.ma K (He.ga K "Net") "__init__", fd_Net___init__ := fd39,
    D_Net___init__ := F39, b_Net___init__ := (FunD.bindsN (ps := ["self", "many", "root", "links"]) F39 fun _ _ _ _ _ _ us hl => match us, hl with | [_, _, _, _], _ => rfl),
    f_Net___eq__ := He.ma K (He.ga K "Net") "__eq__", fd_Net___eq__ := fd40,
    D_Net___eq__ := F40, b_Net___eq__ := (FunD.bindsN (ps := ["self", "other"]) F40 fun _ _ _ _ _ _ us hl => match us, hl with | [_, _], _ => rfl) }
  have B : Bn mg := ⟨fre "len" (by decide +kernel), fre "int" (by decide +kernel), fre "abs" (by decide +kernel), fre "isinstance" (by decide +kernel), fre "range" (by decide +kernel), fre "bool" (by decide +kernel), fre "list" (by decide +kernel), fre "tuple" (by decide +kernel), fre "dict" (by decide +kernel), fre "all" (by decide +kernel), fre "enumerate" (by decide +kernel), fre "repr" (by decide +kernel), fre "max" (by decide +kernel), fre "min" (by decide +kernel), fre "sorted" (by decide +kernel), fre "set" (by decide +kernel), fre "sum" (by decide +kernel), fre "zip" (by decide +kernel)⟩
  have hx : ex K = true := c.more
  obtain ⟨x_ci, hx⟩ := He.ba hx
  obtain ⟨x_ca, hx⟩ := He.ba hx
  obtain ⟨x_cn, hx⟩ := He.ba hx
  obtain ⟨x_ct, hx⟩ := He.ba hx
  obtain ⟨x_cm, hx⟩ := He.ba hx
  obtain ⟨x_kit, hx⟩ := He.ba hx
  obtain ⟨x_er, hx⟩ := He.ba hx
  have x_kT := hx
  have x_ca := of_decide_eq_true x_ca
  have x_cn := of_decide_eq_true x_cn
  have x_ct := of_decide_eq_true x_ct
  have x_cm := of_decide_eq_true x_cm
  have x_kT := of_decide_eq_true x_kT
  have xc_NoNet : XcK K mg "NoNet" := by
    obtain ⟨y1, y2, y3, y4⟩ := He.exc_ok (d.facts (in0 (z := .exc "NoNet") (by simp [fa0])))
    exact ⟨y1, glo "NoNet" (by decide +kernel), y2, y3, y4⟩
  have xc_NoGrown : XcK K mg "NoGrown" := by
    obtain ⟨y1, y2, y3, y4⟩ := He.exc_ok (d.facts (in0 (z := .exc "NoGrown") (by simp [fa0])))
    exact ⟨y1, glo "NoGrown" (by decide +kernel), y2, y3, y4⟩
  have i_FEWEST_PLACES := He.int_ok X G (d.facts (in0 (z := .int "FEWEST_PLACES" 2) (by simp [fa0])))
  have i_MOST_PLACES := He.int_ok X G (d.facts (in0 (z := .int "MOST_PLACES" 10) (by simp [fa0])))
  have i_MOST_LINKS := He.int_ok X G (d.facts (in0 (z := .int "MOST_LINKS" 60) (by simp [fa0])))
  have mk : Mk K (He.ga K "Net") D.f_Net___init__ := He.mkr_ok (d.facts (in0 (z := .mkr "Net") (by simp [fa0])))
  have N : Nk K mg D := {
    ciB := ciB_ok x_ci
    gB := glo "BadNet" (by decide +kernel)
    gT := glo "TreeError" (by decide +kernel)
    gN := glo "Net" (by decide +kernel)
    gNo := glo "NoNet" (by decide +kernel)
    c2 := i_FEWEST_PLACES
    c10 := i_MOST_PLACES
    c60 := i_MOST_LINKS
    cls := He.cls_ok (d.facts (in0 (z := .cls "Net") (by simp [fa0])))
    nm := He.noat_ok (d.facts (in0 (z := .noat "Net" "many") (by simp [fa0])))
    nr := He.noat_ok (d.facts (in0 (z := .noat "Net" "root") (by simp [fa0])))
    nl := He.noat_ok (d.facts (in0 (z := .noat "Net" "links") (by simp [fa0])))
    mkN := mk
    ca := x_ca
    cn := x_cn
    ct := x_ct
    cm := x_cm
    kit := fun t ht => of_decide_eq_true (List.all_eq_true.mp x_kit t ht)
    xN := xc_NoNet.ex
    kN := xc_NoNet.k
    sN := xc_NoNet.s
    tN := xc_NoNet.t }
  have T : T06 K mg := ⟨xc_NoGrown, glo "TreeError" (by decide +kernel), x_er, x_kT, He.exm_ok (d.facts (in0 (z := .exm "NoGrown" "NoGrown" true) (by simp [fa0])))⟩
  have e := hfa.symm.trans (glo "law" (by decide +kernel))
  cases e
  have bl := FunD.bindsA (ps := ["_law_script"]) F37 fun _ _ _ _ _ _ us hl => match us, hl with | [_], _ => rfl
  exact ⟨fd37, fun s v => bl s [v] rfl, fun base _ _ tb => ok_law (P := P) (w := w) (base := base) D B N T⟩
end K06
open PySem PySem.W PySem.Calls PyProof.Rows
theorem PySem.Challenge.cw_sparetrees_k06_whole_trees_packings_and_holds : PySem.Challenge.rw_sparetrees_k06_whole_trees_packings_and.Holds := by
  w_on; o_law
  refine HandSHeadRun.head_any (r := OpenLaw.row PySem.Challenge.rw_sparetrees_k06_whole_trees_packings_and) (q := view (OpenLaw.row PySem.Challenge.rw_sparetrees_k06_whole_trees_packings_and).prog [50]) (H := K06.hk) (ob := K06.ob) (M := 40000) (loose := K06.others) (d := HandSHeadRun.topDef (OpenLaw.row PySem.Challenge.rw_sparetrees_k06_whole_trees_packings_and).prog 50) (kwd := []) K06.ob_eq
    (by kernel_rfl) (fun s => by kernel_rfl) K06.run (by kernel_rfl) (by kernel_rfl) (by kernel_rfl) (by rfl) (by first | assumption | decide +kernel) (by decide +kernel) ⟨rfl, rfl, rfl, rfl, rfl, by decide +kernel⟩ ?hw ?hc
  case hw => w_witness2
  case hc =>
    refine Kv.walkGT (l := PySem.Challenge.rw_sparetrees_k06_whole_trees_packings_and) (n := 63) (k := 14) (x := "_law_script") rfl (by decide) (by kernel_rfl) ⟨rfl, by decide, by decide⟩ ?F
    intro w mg fa h Y G hmg0
    obtain ⟨K, KX, c⟩ := Y
    have hmg : mg ("law" : PySem.Str) = some (.ref fa) := by
      have e : (HandSHeadRun.topDef (OpenLaw.row PySem.Challenge.rw_sparetrees_k06_whole_trees_packings_and).prog 50).name = ("law" : PySem.Str) := by kernel_rfl
      rw [← e]
      exact hmg0
    obtain ⟨fd, hb, hF⟩ := K06.facts (P := (PySem.Challenge.rw_sparetrees_k06_whole_trees_packings_and).prog) (w := w) KX G hmg c
    refine ⟨K, fd, (K06.spLaw K), K06.tf.map (He.cT K), KX, ?_, ?_, ?_, hb, ?_, fun base b1 b2 b3 => hF base b1 b2 fun p hp => b3 _ (List.mem_map_of_mem hp)⟩
    · intro p hp
      obtain ⟨t, ht, rfl⟩ := List.mem_map.mp hp
      exact c.empty t ht
    · intro p hp
      obtain ⟨t, ht, rfl⟩ := List.mem_map.mp hp
      exact codeHd_of_K KX (c.hd t ht)
    · intro p hp
      obtain ⟨t, ht, rfl⟩ := List.mem_map.mp hp
      exact c.out t ht
    · intro H a ns hl _ hT hS
      have hT2 : ∀ t ∈ K06.tf, H (He.cT K t).2 = some (.tbl #[]) := fun t ht => hT _ (List.mem_map_of_mem ht)
      exact ⟨a, ns, rfl, hS, hl, fun _ => rfl⟩
#print axioms PySem.Challenge.cw_sparetrees_k06_whole_trees_packings_and_holds
