import PyProof.Rows.All
import Wide.All
import OpenK.AllK
import Wide.FinOn
import HandS.ForMost
import HandS.Defaults
import HandS.EndBits
import HandS.EndOwn
import HandS.EndTab
import HandS.Lambda
import HandS.IsInst
import HandS.TupAny
import HandS.TupMul
import KE.KExcIs
import PyProof.ReprRoads
import HandS.ForExc
import HandS.ExcInit
import HandS.ExcValue
import HandS.ExcField
import HandS.Zip
import PyProof.ReprLen
import KE.GoesEnum
import PyProof.EnumMake
import PyProof.Draws
import HandS.Iter
import HandS.Walk
import HandS.ExcIs
import HandS.TryMany
import KE.KStateDown
import HandS.Codes
import HandS.Conv
import HandS.HeadHook1
import HandS.DeepEq
import HandS.TryOnly
import HandS.SortInts
import HandS.Strs
import HandS.Style
import HandS.TupLe
import HandS.Head0
import HandS.Head1
import HandS.Head2
import HandS.HeadHook2
import HandS.HeadHook3
import HandS.HeadHook4
import PySem.Challenge.RW_sparetrees_k67_whole_counts_of_what_come
set_option Elab.async false
set_option linter.all false
set_option maxRecDepth 100000
set_option maxHeartbeats 0
namespace Kv
open PySem PySem.Spec PyProof.Rows L2

/-- the five items of the drawer's list -/
def five (c : Addr) (i d s t : Int) : List V := [.ref c, .int i, .int d, .int s, .int t]
/-- the drawer's list at a, over the cells at c; where it stands is left open -/
def drw (a c : Addr) : HO := .ext fun h => ∃ (i d s t : Int) (its : List Value) (k : Nat), 0 ≤ i ∧ Vals (five c i d s t) its ∧ h.get? a = some { cls := .type "list", data := .seq its.toArray k }

theorem drw_at {P : Program} {w : World} {H : Hp} {h : Heap} {a c : Addr} (x : ObjOk P w H h a (drw a c)) :
    ∃ (i d s t : Int) (its : List Value) (k : Nat), 0 ≤ i ∧ Vals (five c i d s t) its ∧ h.get? a = some { cls := .type "list", data := .seq its.toArray k } := x.1
theorem drw_ok {P : Program} {w : World} {H : Hp} {h : Heap} {a c : Addr} {i d s t : Int} (hi : 0 ≤ i) (x : ObjOk P w H h a (.lst (five c i d s t))) {H' : Hp} : ObjOk P w H' h a (drw a c) := by
  obtain ⟨_, its, n, r, e⟩ := x
  refine ⟨⟨i, d, s, t, its, n, hi, r, e⟩, ⟨_, e⟩, fun h1 h2 z q => ?_⟩
  obtain ⟨i, d, s, t, its, n, hi, r, e⟩ := z
  exact ⟨i, d, s, t, its, n, hi, r, q _ e⟩
theorem drw_own {a c x : Addr} : drw a c ≠ .own x := fun z => by
  have z' : HO.ext _ = HO.own x := z
  cases z'
theorem drw_tup {a c : Addr} {xs : List V} : drw a c ≠ .tup xs := fun z => by
  have z' : HO.ext _ = HO.tup xs := z
  cases z'
theorem drw_frz {a c : Addr} {o : Obj} {u : HO} : drw a c ≠ .frz o u := fun z => by
  have z' : HO.ext _ = HO.frz o u := z
  cases z'
theorem drw_tbl {a c : Addr} {ps : Array Value} : drw a c ≠ .tbl ps := fun z => by
  have z' : HO.ext _ = HO.tbl ps := z
  cases z'
theorem drw_lst {a c : Addr} {xs : List V} : drw a c ≠ .lst xs := fun z => by
  have z' : HO.ext _ = HO.lst xs := z
  cases z'
/-- two descriptions of one heap that part at a alone -/
theorem hok_swap {P : Program} {w : World} {H H' : Hp} {h : Heap} {a : Addr} {o : HO} (hok : HOk P w H h) (he : ∀ b, b ≠ a → H' b = H b) (hn : ∀ u, H a = some u → (∀ x, u ≠ .own x) ∧ ∀ xs, u ≠ .tup xs) (ha : H' a = some o) (new : ObjOk P w H' h a o) : HOk P w H' h := fun b u e => by
  by_cases hb : b = a
  · rw [hb] at e ⊢
    rw [ha] at e
    cases e
    exact new
  · have e1 : H b = some u := by rw [← he b hb]; exact e
    have na : ∀ c x, H c = some (.own x) → c ≠ a := fun c x q z => by rw [z] at q; exact (hn _ q).1 x rfl
    have nt : ∀ c xs, H c = some (.tup xs) → c ≠ a := fun c xs q z => by rw [z] at q; exact (hn _ q).2 xs rfl
    exact (hok b u e1).stay (fun _ _ _ q => q) (fun c q => by rw [he c (na c _ q)]; exact q) fun c xs q => by rw [he c (nt c xs q)]; exact q

/-- a def that is proved with the drawer's list laid open keeps the promise in which it is shut -/
theorem shut {P : Program} {w : World} {K : PySem.W.Frag} {mg : Str → Option Value} {base : Heap} {k : Nat} {f : Addr} {fd : FuncData} {ps : List Str} {sp spC : Sp} (F : FnOk P w K mg base CX0 k f fd ps spC)
    (hl : ∀ vs H Q E, sp vs H Q E → vs.length = ps.length)
    (h2 : ∀ vs H Q E, sp vs H Q E → ∃ a c, H a = some (drw a c) ∧ ∀ i d s t, 0 ≤ i → spC vs (upd H a (.lst (five c i d s t)))
      (fun v H' => ∃ H0 i' d' s' t', 0 ≤ i' ∧ H' = upd H0 a (.lst (five c i' d' s' t')) ∧ H0 a = some (drw a c) ∧ Q v H0) E) : FnOk P w K mg base CX0 k f fd ps sp := by
  refine ⟨hl, fun A outer s H args us vs Q E hr e0 hb hv hsp => ?_⟩
  obtain ⟨a, c, ha, hC⟩ := h2 vs H Q E hsp
  obtain ⟨i, d, sd, t, its, n, hi, rv, hget⟩ := drw_at (e0.hok a _ ha)
  have hne : ∀ b, b ≠ a → upd H a (.lst (five c i d sd t)) b = H b := fun b hb => upd_ne hb
  have hna : ∀ b, H b = none → b ≠ a := fun b e z => by rw [z, ha] at e; cases e
  have new : ObjOk P w (upd H a (.lst (five c i d sd t))) s.heap a (.lst (five c i d sd t)) := ⟨by show 5 ≤ sizeLine; decide, its, n, rv, hget⟩
  have hokC : HOk P w (upd H a (.lst (five c i d sd t))) s.heap := hok_swap e0.hok hne (fun u e => by rw [ha] at e; cases e; exact ⟨fun x => drw_own, fun xs => drw_tup⟩) upd_same new
  have eC : Env0 P w K mg base A outer s (upd H a (.lst (five c i d sd t))) := ⟨e0.frames, e0.mod, fun b o e => ⟨(e0.bs b o e).1, by rw [hne b (hna b (e0.bs b o e).2)]; exact (e0.bs b o e).2⟩, e0.bsz, e0.funs, fun b hb => by rw [hne b (hna b (e0.frf b hb))]; exact e0.frf b hb, hokC, e0.bare⟩
  refine codeAny_mono (F.run A outer s _ args us vs _ E hr eC hb hv (hC i d sd t hi)) fun r s' q => ?_
  cases r with
  | error e => exact q
  | ok fl =>
    cases fl with
    | next => exact q
    | brk => exact q
    | cont => exact q
    | ret u =>
      obtain ⟨v, H', os, bare, un, hok', rv', H0, i', d', s1, t', hi', eH, h0, hQ⟩ := q
      subst eH
      have hne2 : ∀ b, b ≠ a → H0 b = upd H0 a (.lst (five c i' d' s1 t')) b := fun b hb => (upd_ne hb).symm
      have up : ∀ {b : Addr}, H b = none → upd H a (.lst (five c i d sd t)) b = none := fun {b} e => by rw [hne b (hna b e)]; exact e
      refine ⟨v, H0, os, bare, ⟨fun b o e n hb hx => un.keep b o e (up n) hb hx, fun b o e n hb hx => un.slot b o e (up n) hb hx, fun b o e n hx => ?_, fun b o e hx => un.there b o e hx, fun b xs e => ?_, fun b o u e => ?_, fun b ps e => ?_⟩, ?_, rv', hQ⟩
      · rw [hne2 b (hna b n)]
        exact un.free b o e (up n) hx
      · have hb : b ≠ a := fun z => by rw [z, ha] at e; exact drw_tup (Option.some.inj e)
        rw [hne2 b hb]
        exact un.tups b xs (by rw [hne b hb]; exact e)
      · have hb : b ≠ a := fun z => by rw [z, ha] at e; exact drw_frz (Option.some.inj e)
        rw [hne2 b hb]
        exact un.frzs b o u (by rw [hne b hb]; exact e)
      · have hb : b ≠ a := fun z => by rw [z, ha] at e; exact drw_tbl (Option.some.inj e)
        rw [hne2 b hb]
        exact un.tbls b ps (by rw [hne b hb]; exact e)
      · exact hok_swap hok' hne2 (fun u e => by rw [upd_same] at e; cases e; exact ⟨fun x z => (nomatch z), fun xs z => (nomatch z)⟩) h0 (drw_ok hi' (hok' a _ upd_same))

/-- a def that hands back a new drawer, laid open -/
theorem shutNew {P : Program} {w : World} {K : PySem.W.Frag} {mg : Str → Option Value} {base : Heap} {k : Nat} {f : Addr} {fd : FuncData} {ps : List Str} {sp spC : Sp} (F : FnOk P w K mg base CX0 k f fd ps spC)
    (hl : ∀ vs H Q E, sp vs H Q E → vs.length = ps.length)
    (h2 : ∀ vs H Q E, sp vs H Q E → spC vs H (fun v H2 => ∃ p c i d s t, 0 ≤ i ∧ H2 p = some (.lst (five c i d s t)) ∧ Q v (upd H2 p (drw p c))) E) : FnOk P w K mg base CX0 k f fd ps sp := by
  refine ⟨hl, fun A outer s H args us vs Q E hr e0 hb hv hsp => ?_⟩
  refine codeAny_mono (F.run A outer s H args us vs _ E hr e0 hb hv (h2 vs H Q E hsp)) fun r s2 q => ?_
  rcases r with e | (_ | _ | _ | u)
  · exact q
  · exact q
  · exact q
  · exact q
  · obtain ⟨v, H2, os, bare, un, hok, rv, p, c, i, d, t, t2, hi, hp, hQ⟩ := q
    have other : ∀ b, H2 b = none → upd H2 p (drw p c) b = none := fun b e => by rw [upd_ne (fun z => by rw [z, hp] at e; cases e)]; exact e
    have ne : ∀ b, b ≠ p → upd H2 p (drw p c) b = H2 b := fun b hb => upd_ne hb
    refine ⟨v, _, os, bare, ⟨un.keep, un.slot, fun b o e n hx => other b (un.free b o e n hx), un.there, fun b xs e => ?_, fun b o u e => ?_, fun b ps e => ?_⟩, ?_, rv, hQ⟩
    · have y := un.tups b xs e
      rw [ne b (fun z => by rw [z, hp] at y; cases y)]
      exact y
    · have y := un.frzs b o u e
      rw [ne b (fun z => by rw [z, hp] at y; cases y)]
      exact y
    · obtain ⟨m, y⟩ := un.tbls b ps e
      exact ⟨m, by rw [ne b (fun z => by rw [z, hp] at y; cases y)]; exact y⟩
    · exact hok_swap hok ne (fun u e => by rw [hp] at e; cases e; exact ⟨fun x z => (nomatch z), fun xs z => (nomatch z)⟩) upd_same (drw_ok hi (hok p _ hp))
end Kv
namespace Kv
open PySem PySem.Spec PyProof.Rows L2

/-- at a: a list of which Z holds; what it holds is left open -/
def drz (a : Addr) (Z : List V → Prop) : HO := .ext fun h => ∃ (xs : List V) (its : List Value) (k : Nat), (Z xs ∧ xs.length ≤ sizeLine) ∧ Vals xs its ∧ h.get? a = some { cls := .type "list", data := .seq its.toArray k }
section
variable {a : Addr} {Z : List V → Prop}
theorem drz_at {P : Program} {w : World} {H : Hp} {h : Heap} (x : ObjOk P w H h a (drz a Z)) :
    ∃ (xs : List V) (its : List Value) (k : Nat), (Z xs ∧ xs.length ≤ sizeLine) ∧ Vals xs its ∧ h.get? a = some { cls := .type "list", data := .seq its.toArray k } := x.1
theorem drz_ok {P : Program} {w : World} {H : Hp} {h : Heap} {xs : List V} (hz : Z xs) (x : ObjOk P w H h a (.lst xs)) {H' : Hp} : ObjOk P w H' h a (drz a Z) := by
  obtain ⟨hl, its, n, r, e⟩ := x
  refine ⟨⟨xs, its, n, ⟨hz, hl⟩, r, e⟩, ⟨_, e⟩, fun h1 h2 z q => ?_⟩
  obtain ⟨ys, is2, n2, hy, r2, e2⟩ := z
  exact ⟨ys, is2, n2, hy, r2, q _ e2⟩
theorem drz_own {x : Addr} : drz a Z ≠ .own x := fun z => by
  have z' : HO.ext _ = HO.own x := z
  cases z'
theorem drz_tup {xs : List V} : drz a Z ≠ .tup xs := fun z => by
  have z' : HO.ext _ = HO.tup xs := z
  cases z'
theorem drz_frz {o : Obj} {u : HO} : drz a Z ≠ .frz o u := fun z => by
  have z' : HO.ext _ = HO.frz o u := z
  cases z'
theorem drz_tbl {ps : Array Value} : drz a Z ≠ .tbl ps := fun z => by
  have z' : HO.ext _ = HO.tbl ps := z
  cases z'
theorem drz_lst {xs : List V} : drz a Z ≠ .lst xs := fun z => by
  have z' : HO.ext _ = HO.lst xs := z
  cases z'
end
/-- a def that is proved with that list laid open keeps the promise in which it is shut -/
theorem shutZ {P : Program} {w : World} {K : PySem.W.Frag} {mg : Str → Option Value} {base : Heap} {k : Nat} {f : Addr} {fd : FuncData} {ps : List Str} {sp spC : Sp} (F : FnOk P w K mg base CX0 k f fd ps spC)
    (hl : ∀ vs H Q E, sp vs H Q E → vs.length = ps.length)
    (h2 : ∀ vs H Q E, sp vs H Q E → ∃ a Z, H a = some (drz a Z) ∧ ∀ xs, Z xs → spC vs (upd H a (.lst xs))
      (fun v H' => ∃ H0 ys, Z ys ∧ H' = upd H0 a (.lst ys) ∧ H0 a = some (drz a Z) ∧ Q v H0) E) : FnOk P w K mg base CX0 k f fd ps sp := by
  refine ⟨hl, fun A outer s H args us vs Q E hr e0 hb hv hsp => ?_⟩
  obtain ⟨a, Z, ha, hC⟩ := h2 vs H Q E hsp
  obtain ⟨xs, its, n, ⟨hz, hlen⟩, rv, hget⟩ := drz_at (e0.hok a _ ha)
  have apart : ∀ b, b ≠ a → upd H a (.lst xs) b = H b := fun b hb => upd_ne hb
  have fresh : ∀ b, H b = none → b ≠ a := fun b e z => by rw [z, ha] at e; cases e
  have hokC : HOk P w (upd H a (.lst xs)) s.heap := hok_swap e0.hok apart (fun u e => by rw [ha] at e; cases e; exact ⟨fun x => drz_own, fun xs => drz_tup⟩) upd_same ⟨hlen, its, n, rv, hget⟩
  have eC : Env0 P w K mg base A outer s (upd H a (.lst xs)) := ⟨e0.frames, e0.mod, fun b o e => ⟨(e0.bs b o e).1, by rw [apart b (fresh b (e0.bs b o e).2)]; exact (e0.bs b o e).2⟩, e0.bsz, e0.funs, fun b hb => by rw [apart b (fresh b (e0.frf b hb))]; exact e0.frf b hb, hokC, e0.bare⟩
  refine codeAny_mono (F.run A outer s _ args us vs _ E hr eC hb hv (hC xs hz)) fun r s2 q => ?_
  rcases r with e | (_ | _ | _ | u)
  · exact q
  · exact q
  · exact q
  · exact q
  · obtain ⟨v, H', os, bare, un, hok2, rv2, H0, ys, hz2, eH, h0, hQ⟩ := q
    subst eH
    have apart2 : ∀ b, b ≠ a → H0 b = upd H0 a (.lst ys) b := fun b hb => (upd_ne hb).symm
    have free : ∀ {b : Addr}, H b = none → upd H a (.lst xs) b = none := fun {b} e => by rw [apart b (fresh b e)]; exact e
    refine ⟨v, H0, os, bare, ⟨fun b o e n hb hx => un.keep b o e (free n) hb hx, fun b o e n hb hx => un.slot b o e (free n) hb hx, fun b o e n hx => ?_, fun b o e hx => un.there b o e hx, fun b zs e => ?_, fun b o u e => ?_, fun b ps e => ?_⟩, ?_, rv2, hQ⟩
    · rw [apart2 b (fresh b n)]
      exact un.free b o e (free n) hx
    · have hb : b ≠ a := fun z => by rw [z, ha] at e; exact drz_tup (Option.some.inj e)
      rw [apart2 b hb]
      exact un.tups b zs (by rw [apart b hb]; exact e)
    · have hb : b ≠ a := fun z => by rw [z, ha] at e; exact drz_frz (Option.some.inj e)
      rw [apart2 b hb]
      exact un.frzs b o u (by rw [apart b hb]; exact e)
    · have hb : b ≠ a := fun z => by rw [z, ha] at e; exact drz_tbl (Option.some.inj e)
      rw [apart2 b hb]
      exact un.tbls b ps (by rw [apart b hb]; exact e)
    · exact hok_swap hok2 apart2 (fun u e => by rw [upd_same] at e; cases e; exact ⟨fun x z => (nomatch z), fun xs z => (nomatch z)⟩) h0 (drz_ok hz2 (hok2 a _ upd_same))
/-- a def that hands back such a list, new, laid open -/
theorem shutZNew {P : Program} {w : World} {K : PySem.W.Frag} {mg : Str → Option Value} {base : Heap} {k : Nat} {f : Addr} {fd : FuncData} {ps : List Str} {sp spC : Sp} (F : FnOk P w K mg base CX0 k f fd ps spC)
    (hl : ∀ vs H Q E, sp vs H Q E → vs.length = ps.length)
    (h2 : ∀ vs H Q E, sp vs H Q E → spC vs H (fun v H2 => ∃ p Z xs, Z xs ∧ H2 p = some (.lst xs) ∧ Q v (upd H2 p (drz p Z))) E) : FnOk P w K mg base CX0 k f fd ps sp := by
  refine ⟨hl, fun A outer s H args us vs Q E hr e0 hb hv hsp => ?_⟩
  refine codeAny_mono (F.run A outer s H args us vs _ E hr e0 hb hv (h2 vs H Q E hsp)) fun r s2 q => ?_
  rcases r with e | (_ | _ | _ | u)
  · exact q
  · exact q
  · exact q
  · exact q
  · obtain ⟨v, H2, os, bare, un, hok, rv, p, Z, xs, hz, hp, hQ⟩ := q
    have stay : ∀ b, H2 b = none → upd H2 p (drz p Z) b = none := fun b e => by rw [upd_ne (fun z => by rw [z, hp] at e; cases e)]; exact e
    have apart : ∀ b, b ≠ p → upd H2 p (drz p Z) b = H2 b := fun b hb => upd_ne hb
    refine ⟨v, _, os, bare, ⟨un.keep, un.slot, fun b o e n hx => stay b (un.free b o e n hx), un.there, fun b zs e => ?_, fun b o u e => ?_, fun b ps e => ?_⟩, ?_, rv, hQ⟩
    · have y := un.tups b zs e
      rw [apart b (fun z => by rw [z, hp] at y; cases y)]
      exact y
    · have y := un.frzs b o u e
      rw [apart b (fun z => by rw [z, hp] at y; cases y)]
      exact y
    · obtain ⟨m, y⟩ := un.tbls b ps e
      exact ⟨m, by rw [apart b (fun z => by rw [z, hp] at y; cases y)]; exact y⟩
    · exact hok_swap hok apart (fun u e => by rw [hp] at e; cases e; exact ⟨fun x z => (nomatch z), fun xs z => (nomatch z)⟩) upd_same (drz_ok hz (hok p _ hp))
end Kv
namespace Kv
open PySem PySem.Spec PyProof.Rows L2

/-- a def's promise, kept where no text of a list or tuple is being made around the call -/
structure FnG (P : Program) (w : World) (K : PySem.W.Frag) (mg : Str → Option Value) (base : Heap) (k : Nat) (f : Addr) (fd : FuncData) (ps : List Str) (sp : Sp) : Prop where
  len : ∀ vs H Q E, sp vs H Q E → vs.length = ps.length
  run : ∀ (A : Around) (out : List Env) (s : Shared) (H : Hp) (ag : Args) (us : List Value) (vs : List V) (Q : VK) (E : XK), A.guards = some [] → Room k A → Env0 P w K mg base A out s H → BindsTo s fd ag (ps.zip us) → Vals vs us → sp vs H Q E →
    codeAny (model P w) A (.call (.ref f) ag) (CR CX0 out P w H s Q E) s
section
variable {P : Program} {w : World} {K : PySem.W.Frag} {mg : Str → Option Value} {base : Heap} {k : Nat} {f : Addr} {fd : FuncData} {ps : List Str} {sp : Sp}
theorem FnG.of (F : FnOk P w K mg base CX0 k f fd ps sp) : FnG P w K mg base k f fd ps sp := ⟨F.len, fun A out s H ag us vs Q E _ => F.run A out s H ag us vs Q E⟩

/-- the body's context at its entry -/
abbrev cxG (P : Program) (w : World) (K : PySem.W.Frag) (mg : Str → Option Value) (base : Heap) (N : List Str) (qual : Str) (sc : Scope) (f : Addr) (cd : Value) (A : Around) (out : List Env) (s : Shared) (H : Hp) (E : XK) : Cx := (cxOf CX0 P w K mg base N qual sc f cd A out s H E).nox
/-- a def by its body, where no repr is under way -/
theorem okG {x qual : Str} {ar : Arguments} {body : List Stmt} {sc : Scope} {dvs : List V} {kws : List (Str × V)} {N : List Str} (F : FunD K x qual ar body sc dvs kws f fd) (S : FnScope N ps sc) (len : ∀ vs H Q E, sp vs H Q E → vs.length = ps.length)
    (hb : ∀ (cd : Value) (A : Around) (out : List Env) (s : Shared) (H : Hp) (vs : List V) (Q : VK) (E : XK), A.guards = some [] → Room k (A.deeper (envOfC qual sc s.heap.objs.size f cd)) → sp vs H Q E →
      ∃ t, PSs (cxG P w K mg base N qual sc f cd A out s H E) body t ∧ t { nx := fun _ H1 => Q .non H1, rt := Q } (start N vs) H) : FnG P w K mg base (k + 1) f fd ps sp := by
  refine ⟨len, fun A out s H ag us vs Q E hg hr e0 bd rv hq => ?_⟩
  obtain ⟨oc, od, dV, kV, doc, pm, an, cdv, ct, osl, rfl, lk, hcd, _⟩ := F.ex
  have lenv := len vs H Q E hq
  have inK : K.In s.heap := e0.mod.kin.keeps fun b o z => (e0.bs b o z).1
  have nol : s.heap.NoLimit := e0.mod.nolimit.keeps fun b o z => (e0.bs b o z).1
  have kinds : ∀ y ∈ ps.zip us, sc.names.lookup y.1 = some .local ∨ (sc.names.lookup y.1 = some .cell ∧ ((cellsFrom (s.heap.objs.size + 1) sc.names []).lookup y.1).isSome = true) := by
    rintro ⟨n, v⟩ hy
    rcases S.par n (List.of_mem_zip hy).1 with z | z
    · exact Or.inl z
    · exact Or.inr ⟨z, PySem.W.cellsFrom_some _ _ _ (Or.inl z)⟩
  refine codeAny_call_function hr.depth (inK _ _ lk) rfl S.co S.gen rfl (PySem.W.codeRec_of inK hcd) (bd _ _ _ _ (wpAny_newFunctionEnv_cells S.kind kinds fun env henv s1 x => ?_))
  cases henv
  refine ⟨nol.keeps x.toInCall.keep, codeAny_func ?_⟩
  obtain ⟨t, ht, hw⟩ := hb cdv A out s H vs Q E hg (hr.deeper _) hq
  have I : Inv (cxOf CX0 P w K mg base N qual sc f cdv A out s H E) [] (start N vs) H s1 := inv_start S hr.hd e0 lenv rv x
  refine wpAny_mono (ht.nox.run [] s1 (start N vs) H _ I hw) (fun fl s2 hs => ?_) fun _ _ z => z
  rcases fl with _ | _ | _ | u
  · obtain ⟨σ2, H2, J, q⟩ := hs
    exact ⟨.non, H2, J.os, J.bare, J.base, J.hok, rfl, q⟩
  · obtain ⟨σ2, H2, J, q⟩ := hs
    exact q.elim
  · obtain ⟨σ2, H2, J, q⟩ := hs
    exact q.elim
  · obtain ⟨v, σ2, H2, J, r, q⟩ := hs
    exact ⟨v, H2, J.os, J.bare, J.base, J.hok, r, q⟩
end

section
variable {P : Program} {w : World} {K : PySem.W.Frag} {mg mb : Str → Option Value} {k : Nat} {fa a : Addr} {fd : FuncData} {x : Str} {sp : Sp} {z : Shared} {vs : List Value} {ns : List Int}
/-- the script's object -/
abbrev scrO (vs : List Value) : Obj := { cls := .type "list", data := .seq vs.toArray }
/-- the law's call, over an abstract heap that tracks the script or nothing -/
theorem lawAt (H : Hp) (KX : K.In z.heap) (hns : z.heap.Ns mainGlobals mg) (hbl : z.heap.Ns builtinsNs mb) (hbb : ∀ y : Str, y ≠ "__name__" → mb y = bootBuiltins y) (hlim : z.heap.NoLimit) (hgen : z.gens = #[])
    (ha : z.heap.get? a = some (scrO vs)) (rv : Vals (ns.map V.int) vs) (hlen : ns.length ≤ sizeLine) (hr : Room k callerA)
    (F : ∀ base : Heap, K.In base → base.Ns mainGlobals mg → FnG P w K mg base k fa fd [x] sp) (hbind : ∀ (s : Shared) (u : Value), BindsTo s fd ⟨[u], []⟩ [(x, u)])
    (only : ∀ b u, H b = some u → b = a ∧ u = .frz (scrO vs) (.lst (ns.map V.int))) (noK : ∀ u, H a = some u → K.lookup a = none)
    (hsp : sp [.ref a] H (fun v _ => v = .bl true) fun _ _ _ => False) :
    codeAny (model P w) callerA (.call (.ref fa) ⟨[.ref a], []⟩) (fun r s2 => r = .ok (.ret (.bool true)) ∧ OldK z.heap s2.heap ∧ s2.os = z.os ∧ AllBare s2.gens) z := by
  have hok : HOk P w H z.heap := fun b u q => by
    obtain ⟨rfl, rfl⟩ := only b u q
    exact ⟨ha, by rw [List.length_map]; exact hlen, vs, _, rv, ha⟩
  have free : ∀ {b : Addr} {o : Obj}, z.heap.get? b = some o → (∀ its n, o.data ≠ .seq its n) → H b = none := fun {b o} e nd => by
    cases q : H b with
    | none => rfl
    | some u =>
      obtain ⟨e1, _⟩ := only b u q
      rw [e1, ha] at e
      exact (nd vs.toArray _ (congrArg Obj.data (Option.some.inj e)).symm).elim
  have nsOf : ∀ {b : Addr} {m : Str → Option Value}, z.heap.Ns b m → (hidT z.heap H).Ns b m := by
    rintro b m ⟨o, es, ep, e, hd, r⟩
    exact ⟨o, es, ep, hidT_get e (free e fun its n q => by rw [hd] at q; cases q), hd, r⟩
  have inK : K.In (hidT z.heap H) := fun b o e => hidT_get (KX b o e) (by
    cases q : H b with
    | none => rfl
    | some u =>
      obtain ⟨e1, _⟩ := only b u q
      rw [e1] at e q
      rw [noK u q] at e
      cases e)
  have md : Mod K mg (hidT z.heap H) := by
    obtain ⟨mc, h1, h2⟩ := hlim
    exact ⟨inK, nsOf hns, ⟨mb, nsOf hbl, hbb⟩, mc, nsOf h1, h2⟩
  have none0 : ∀ b : Addr, b ∈ ([] : List Addr) → False := fun b q => nomatch q
  have e0 : Env0 P w K mg (hidT z.heap H) callerA [] z H := ⟨rfl, md, fun b o e => of_hidT e, Nat.le_of_eq (hidT_size _ _), trivial, fun b q => (none0 b q).elim, hok, .of_eq hgen⟩
  refine codeAny_mono ((F _ inK (nsOf hns)).run callerA [] z H ⟨[.ref a], []⟩ [.ref a] [.ref a] _ _ rfl hr e0 (hbind z (.ref a)) (.cons rfl .nil) hsp) fun r s2 q => ?_
  rcases r with e | (_ | _ | _ | u)
  · exact q.elim
  · exact q.elim
  · exact q.elim
  · exact q.elim
  · obtain ⟨v, H2, hos, hbare, un, hok2, rel, ev⟩ := q
    cases ev
    cases rel
    refine ⟨rfl, OldK.of_keep fun b o e => ?_, hos, hbare⟩
    cases q : H b with
    | none => exact un.keep b o e q (fun y => none0 b y) (fun y => none0 b y)
    | some u =>
      obtain ⟨e1, e2⟩ := only b u q
      rw [e2] at q
      obtain ⟨y, _⟩ := hok2 b _ (un.frzs b _ _ q)
      rw [e1] at e y ⊢
      rw [ha] at e
      exact y.trans e
end

/-- the end of a law's row; F: the written part, the function object, the promise -/
theorem walkG {l : PySem.W.OpenLaw} {n k : Nat} {q : Program} {loose : List Str} {XP : (Str → Option Value) → Heap → Prop} {YP : World → Heap → Prop} {d : DefRec} {x : Str}
    (hn : l.most = some n) (hn2 : n ≤ sizeLine) (hdf : d.params.defaults = []) (hr : Room k callerA)
    (F : ∀ (w : World) (mg : Str → Option Value) (fa : Addr) (h : Heap), YP w h → h.Ns mainGlobals mg → mg d.name = some (.ref fa) →
      ∃ (K : PySem.W.Frag) (fd : FuncData) (sp : Sp), K.In h ∧ (∀ (s : Shared) (u : Value), BindsTo s fd ⟨[u], []⟩ [(x, u)]) ∧
        (∀ (H : Hp) (a : Addr) (ns : List Int), ns.length ≤ n → (∀ y ∈ ns, Builtin.Int.intBits y ≤ 1048576) → Only H → SqL K H a (ns.map V.int) → sp [.ref a] H (fun v _ => v = .bl true) fun _ _ _ => False) ∧
        ∀ base : Heap, K.In base → base.Ns mainGlobals mg → FnG l.prog w K mg base k fa fd [x] sp) :
    PySem.W.WalkO q loose XP YP l.row.toRowW d [] (fun f vs => PySem.call f vs) := by
  refine Att.attach_callB hn hdf fun w s0 z mg mb fa o pm cd doc a vs ns G Y _ _ _ hmg hobj hints hlen hbits hg => ?_
  obtain ⟨K, fd, sp, KX, hb, hsp, hF⟩ := F w mg fa _ Y G.T.g hmg
  have rv := vals_ints hints
  have hle : ns.length ≤ sizeLine := Nat.le_trans hlen hn2
  cases hk : K.lookup a with
  | some ob =>
    refine lawAt (fun _ => none) KX G.T.g G.T.b G.T.builtins G.T.nolimit hg hobj rv hle hr hF hb (fun b u y => by cases y) (fun u y => by cases y) (hsp _ a ns hlen hbits (fun _ => Or.inl rfl) (Or.inr ?_))
    have e := KX a ob hk
    rw [hobj] at e
    cases e
    exact ⟨_, vs.toArray, _, hk, rfl, rfl, rfl, by rw [List.size_toArray, hints.length]; exact hle, by simpa using rv⟩
  | none =>
    have at_a : (fun b => if b = a then some (HO.frz (scrO vs) (.lst (ns.map V.int))) else none : Hp) a = some (HO.frz (scrO vs) (.lst (ns.map V.int))) := if_pos rfl
    refine lawAt (fun b => if b = a then some (HO.frz (scrO vs) (.lst (ns.map V.int))) else none) KX G.T.g G.T.b G.T.builtins G.T.nolimit hg hobj rv hle hr hF hb (fun b u y => ?_) (fun u _ => hk)
      (hsp _ a ns hlen hbits (fun b => ?_) (Or.inl (Or.inr ⟨_, at_a⟩)))
    · by_cases e : b = a
      · have y2 := (if_pos e).symm.trans y
        cases y2
        exact ⟨e, rfl⟩
      · have y2 := (if_neg e).symm.trans y
        cases y2
    · by_cases e : b = a
      · exact Or.inr ⟨_, _, if_pos e⟩
      · exact Or.inl (if_neg e)
section
variable {X : Cx} {k : Nat} {f : Addr} {fd : FuncData} {ps : List Str} {sp : Sp} {x : Str} {p pos : Pos} {e : Expr} {es : List Expr} {t : TA}
/-- the call of a def of that kind -/
theorem pe_callFG (F : FnG X.prog X.w X.K X.mg X.base k f fd ps sp) (hgd : X.A.guards = some []) (hr : Room k X.A) (hg : Gl X x) (hm : X.mg x = some (.ref f)) (hk : PySem.W.keepIn X.K (.ref f) = true) (hb : Binds X.K fd ps []) (ha : PA X (e :: es) t)
    (hdb : (x == ("__debug__" : Str)) = false := by decide) (he : starEach (e :: es) X.env = (false, eval e X.env) :: starEach es X.env := by rfl) (hpl : (backTo pos (starEach es X.env)).any (·.1) = false := by rfl) :
    PE X (.Call (.Name x p) (e :: es) [] pos) (tCall sp [] E0 t) := by
  refine ⟨fun pins s σ H Q I h => ?_⟩
  refine wpAny_Call_Name_kw (ld_glob I hg hm ?_ hdb)
  refine PySem.W.callWith_K (h₀ := X.base) I.ok.mod.kin hk (thn (ha.run pos pins s σ H _ I h) fun us s1 z => ?_) he hpl
  obtain ⟨vs, H1, I1, r, q⟩ := z
  refine ⟨I1.kIn, ?_⟩
  show wpAny _ _ (call (.ref f) us) _ _ _
  rw [List.append_nil] at q
  have hl : us.length = ps.length := by rw [← r.length]; exact F.len _ _ _ _ q
  have b := hb s1 us I1.kIn (by rw [List.append_nil]; exact hl)
  rw [List.append_nil] at b
  refine wpAny_call (codeAny_mono (F.run X.A X.stack s1 H1 ⟨us, []⟩ us vs Q E0 hgd hr I1.env0 b r q) fun r2 s' hq => ?_)
  cases r2 with
  | error e => exact hq.elim
  | ok fl =>
    cases fl with
    | ret u => exact I1.after hq
    | next => exact False.elim hq
    | brk => exact False.elim hq
    | cont => exact False.elim hq
end
end Kv
/-! a law's row where lambdas are made: the tables of code objects are tracked -/
namespace Kv
open PySem PySem.Spec PyProof.Rows L2 LamX
section
variable {P : Program} {w : World} {K : PySem.W.Frag} {mg : Str → Option Value} {base : Heap} {k : Nat} {f : Addr} {fd : FuncData} {ps : List Str} {sp : Sp}
/-- okG, with the code that the def's object names -/
theorem okGC {x qual : Str} {ar : Arguments} {body : List Stmt} {sc : Scope} {dvs : List V} {kws : List (Str × V)} {N : List Str} (F : FunD K x qual ar body sc dvs kws f fd) (S : FnScope N ps sc) (len : ∀ vs H Q E, sp vs H Q E → vs.length = ps.length)
    (hb : ∀ (cd : Value) (A : Around) (out : List Env) (s : Shared) (H : Hp) (vs : List V) (Q : VK) (E : XK), fd.code = cd → A.guards = some [] → Room k (A.deeper (envOfC qual sc s.heap.objs.size f cd)) → sp vs H Q E →
      ∃ t, PSs (cxG P w K mg base N qual sc f cd A out s H E) body t ∧ t { nx := fun _ H1 => Q .non H1, rt := Q } (start N vs) H) : FnG P w K mg base (k + 1) f fd ps sp := by
  refine ⟨len, fun A out s H ag us vs Q E hg hr e0 bd rv hq => ?_⟩
  obtain ⟨oc, od, dV, kV, doc, pm, an, cdv, ct, osl, rfl, lk, hcd, _⟩ := F.ex
  have here : K.In s.heap := e0.mod.kin.keeps fun b o z => (e0.bs b o z).1
  have roomy : s.heap.NoLimit := e0.mod.nolimit.keeps fun b o z => (e0.bs b o z).1
  have args : ∀ y ∈ ps.zip us, sc.names.lookup y.1 = some .local ∨ (sc.names.lookup y.1 = some .cell ∧ ((cellsFrom (s.heap.objs.size + 1) sc.names []).lookup y.1).isSome = true) := fun ⟨n, v⟩ hy =>
    (S.par n (List.of_mem_zip hy).1).imp id fun z => ⟨z, PySem.W.cellsFrom_some _ _ _ (Or.inl z)⟩
  refine codeAny_call_function hr.depth (here _ _ lk) rfl S.co S.gen rfl (PySem.W.codeRec_of here hcd) (bd _ _ _ _ (wpAny_newFunctionEnv_cells S.kind args fun env henv s1 x => ?_))
  cases henv
  refine ⟨roomy.keeps x.toInCall.keep, codeAny_func ?_⟩
  obtain ⟨t, ht, hw⟩ := hb cdv A out s H vs Q E rfl hg (hr.deeper _) hq
  refine wpAny_mono (ht.nox.run [] s1 (start N vs) H _ (inv_start S hr.hd e0 (len vs H Q E hq) rv x) hw) (fun fl s2 hs => ?_) fun _ _ z => z
  rcases fl with _ | _ | _ | u
  · obtain ⟨σ2, H2, J, q⟩ := hs
    exact ⟨.non, H2, J.os, J.bare, J.base, J.hok, rfl, q⟩
  · exact hs.choose_spec.choose_spec.2.elim
  · exact hs.choose_spec.choose_spec.2.elim
  · obtain ⟨v, σ2, H2, J, r, q⟩ := hs
    exact ⟨v, H2, J.os, J.bare, J.base, J.hok, r, q⟩
end
section
variable {P : Program} {w : World} {K : PySem.W.Frag} {mg mb : Str → Option Value} {k : Nat} {fa a : Addr} {fd : FuncData} {x : Str} {sp : Sp} {z : Shared} {vs : List Value} {ns : List Int} {cs : List (Addr × Addr)}
/-- an empty table of code objects -/
abbrev tabO : Obj := { cls := .none, data := .fields #[] }
theorem lawAtT (H : Hp) (KX : K.In z.heap) (hns : z.heap.Ns mainGlobals mg) (hbl : z.heap.Ns builtinsNs mb) (hbb : ∀ y : Str, y ≠ "__name__" → mb y = bootBuiltins y) (hlim : z.heap.NoLimit) (hgen : z.gens = #[])
    (hT : ∀ p ∈ cs, z.heap.get? p.2 = some tabO) (hC : ∀ p ∈ cs, PySem.W.CodeHd z.heap p.1 p.2)
    (hbm : ∃ (bm : Addr) (ob : Obj), mg "__builtins__" = some (.ref bm) ∧ bm ≠ builtinsNs ∧ z.heap.get? bm = some ob ∧ ob.cls = .type "module" ∧ ob.dict = some builtinsNs ∧ ob.data = .plain)
    (ha : z.heap.get? a = some (scrO vs)) (rv : Vals (ns.map V.int) vs) (hlen : ns.length ≤ sizeLine) (hr : Room k callerA)
    (F : ∀ base : Heap, K.In base → base.Ns mainGlobals mg → (∀ p ∈ cs, TabB base mg p.1 p.2) → FnG P w K mg base k fa fd [x] sp) (hbind : ∀ (s : Shared) (u : Value), BindsTo s fd ⟨[u], []⟩ [(x, u)])
    (only : ∀ b u, H b = some u → (b = a ∧ u = .frz (scrO vs) (.lst (ns.map V.int))) ∨ ((∃ p ∈ cs, p.2 = b) ∧ u = .tbl #[])) (tabs : ∀ p ∈ cs, H p.2 = some (.tbl #[])) (noK : ∀ b u, H b = some u → K.lookup b = none)
    (hsp : sp [.ref a] H (fun v _ => v = .bl true) fun _ _ _ => False) :
    codeAny (model P w) callerA (.call (.ref fa) ⟨[.ref a], []⟩) (fun r s2 => r = .ok (.ret (.bool true)) ∧ OldK z.heap s2.heap ∧ s2.os = z.os ∧ AllBare s2.gens) z := by
  have hok : HOk P w H z.heap := fun b u q => by
    rcases only b u q with ⟨rfl, rfl⟩ | ⟨⟨p, hp, rfl⟩, rfl⟩
    · exact ⟨ha, by rw [List.length_map]; exact hlen, vs, _, rv, ha⟩
    · exact hT p hp
  have free : ∀ {b : Addr} {o : Obj}, z.heap.get? b = some o → (∀ its n, o.data ≠ .seq its n) → o.data ≠ .fields #[] → H b = none := fun {b o} e n1 n2 => by
    cases q : H b with
    | none => rfl
    | some u =>
      rcases only b u q with ⟨e1, _⟩ | ⟨⟨p, hp, e1⟩, _⟩
      · rw [e1, ha] at e
        exact (n1 vs.toArray _ (congrArg Obj.data (Option.some.inj e)).symm).elim
      · rw [← e1, hT p hp] at e
        exact (n2 (congrArg Obj.data (Option.some.inj e)).symm).elim
  have nsOf : ∀ {b : Addr} {m : Str → Option Value}, z.heap.Ns b m → (hidT z.heap H).Ns b m := by
    rintro b m ⟨o, es, ep, e, hd, r⟩
    exact ⟨o, es, ep, hidT_get e (free e (fun its n q => by rw [hd] at q; cases q) fun q => by rw [hd] at q; cases q), hd, r⟩
  have inK : K.In (hidT z.heap H) := fun b o e => hidT_get (KX b o e) (by
    cases q : H b with
    | none => rfl
    | some u =>
      rw [noK b u q] at e
      cases e)
  have md : Mod K mg (hidT z.heap H) := by
    obtain ⟨mc, h1, h2⟩ := hlim
    exact ⟨inK, nsOf hns, ⟨mb, nsOf hbl, hbb⟩, mc, nsOf h1, h2⟩
  have globT : ∀ p ∈ cs, mainGlobals ≠ p.2 := fun p hp e => by
    obtain ⟨o, es, ep, g, hd, _⟩ := hns
    rw [e, hT p hp] at g
    cases g
    cases hd
  have TB : ∀ p ∈ cs, TabB (hidT z.heap H) mg p.1 p.2 := fun p hp => by
    refine ⟨?_, ?_, globT p hp⟩
    · obtain ⟨o, us, file, tf, flags, tg, inF, text, tt, e1, r1, r2, r3, r4⟩ := hC p hp
      refine ⟨o, us, file, tf, flags, tg, inF, text, tt, hidT_get e1 (free e1 (fun its n q => by rw [r2] at q; cases q) fun q => ?_), r1, r2, r3, r4⟩
      rw [r2] at q
      cases q
      simp at r3
    · obtain ⟨bm, ob, b1, b2, b3, b4, b5, b6⟩ := hbm
      refine ⟨bm, ob, b1, b2, fun q => ?_, fun q => ?_, hidT_get b3 (free b3 (fun its n q => by rw [b6] at q; cases q) fun q => by rw [b6] at q; cases q), b4, b5, b6⟩
      · obtain ⟨o, es, ep, g, hd, _⟩ := hns
        rw [← q, b3] at g
        cases g
        rw [b6] at hd
        cases hd
      · rw [q, hT p hp] at b3
        cases b3
        cases b6
  have none0 : ∀ b : Addr, b ∈ ([] : List Addr) → False := fun b q => nomatch q
  have e0 : Env0 P w K mg (hidT z.heap H) callerA [] z H := ⟨rfl, md, fun b o e => of_hidT e, Nat.le_of_eq (hidT_size _ _), trivial, fun b q => (none0 b q).elim, hok, .of_eq hgen⟩
  refine codeAny_mono ((F _ inK (nsOf hns) TB).run callerA [] z H ⟨[.ref a], []⟩ [.ref a] [.ref a] _ _ rfl hr e0 (hbind z (.ref a)) (.cons rfl .nil) hsp) fun r s2 q => ?_
  rcases r with e | (_ | _ | _ | u)
  · exact q.elim
  · exact q.elim
  · exact q.elim
  · exact q.elim
  · obtain ⟨v, H2, hos, hbare, un, hok2, rel, ev⟩ := q
    cases ev
    cases rel
    have stays : ∀ b o, (∀ p ∈ cs, p.2 ≠ b) → z.heap.get? b = some o → s2.heap.get? b = some o := fun b o nt e => by
      cases q : H b with
      | none => exact un.keep b o e q (fun y => none0 b y) (fun y => none0 b y)
      | some u =>
        rcases only b u q with ⟨e1, e2⟩ | ⟨⟨p, hp, e1⟩, _⟩
        · rw [e2] at q
          obtain ⟨y, _⟩ := hok2 b _ (un.frzs b _ _ q)
          rw [e1] at e y ⊢
          rw [ha] at e
          exact y.trans e
        · exact (nt p hp e1).elim
    have grown : ∀ p ∈ cs, ∃ more : Array Value, s2.heap.get? p.2 = some { cls := .none, data := .fields (#[] ++ more) } := fun p hp => by
      obtain ⟨more, y⟩ := un.tbls p.2 #[] (tabs p hp)
      exact ⟨more, hok2 p.2 _ y⟩
    refine ⟨rfl, ⟨fun b o e => ?_, fun b o e => ?_⟩, hos, hbare⟩
    · by_cases ht : ∃ p ∈ cs, p.2 = b
      · obtain ⟨p, hp, rfl⟩ := ht
        obtain ⟨more, y⟩ := grown p hp
        rw [hT p hp] at e
        cases e
        exact Or.inr (Or.inl ⟨((hC p hp).tab (hT p hp)).isCodeTable, rfl, #[], more, rfl, y⟩)
      · exact Or.inl (stays b o (fun p hp h => ht ⟨p, hp, h⟩) e)
    · by_cases ht : ∃ p ∈ cs, p.2 = b
      · obtain ⟨p, hp, rfl⟩ := ht
        obtain ⟨more, y⟩ := grown p hp
        exact ⟨_, y⟩
      · exact ⟨o, stays b o (fun p hp h => ht ⟨p, hp, h⟩) e⟩
end
/-- the end of a law's row; F: the written part, the function object, the promise, the tables -/
theorem walkGT {l : PySem.W.OpenLaw} {n k : Nat} {q : Program} {loose : List Str} {XP : (Str → Option Value) → Heap → Prop} {YP : World → Heap → Prop} {d : DefRec} {x : Str}
    (hn : l.most = some n) (hn2 : n ≤ sizeLine) (hdf : d.params.defaults = []) (hr : Room k callerA)
    (F : ∀ (w : World) (mg : Str → Option Value) (fa : Addr) (h : Heap), YP w h → h.Ns mainGlobals mg → mg d.name = some (.ref fa) →
      ∃ (K : PySem.W.Frag) (fd : FuncData) (sp : Sp) (cs : List (Addr × Addr)), K.In h ∧ (∀ p ∈ cs, h.get? p.2 = some tabO) ∧ (∀ p ∈ cs, PySem.W.CodeHd h p.1 p.2) ∧ (∀ p ∈ cs, K.lookup p.2 = none) ∧ (∀ (s : Shared) (u : Value), BindsTo s fd ⟨[u], []⟩ [(x, u)]) ∧
        (∀ (H : Hp) (a : Addr) (ns : List Int), ns.length ≤ n → (∀ y ∈ ns, Builtin.Int.intBits y ≤ 1048576) → (∀ p ∈ cs, H p.2 = some (.tbl #[])) → SqL K H a (ns.map V.int) → sp [.ref a] H (fun v _ => v = .bl true) fun _ _ _ => False) ∧
        ∀ base : Heap, K.In base → base.Ns mainGlobals mg → (∀ p ∈ cs, TabB base mg p.1 p.2) → FnG l.prog w K mg base k fa fd [x] sp) :
    PySem.W.WalkO q loose XP YP l.row.toRowW d [] (fun f vs => PySem.call f vs) := by
  refine Att.attach_callB hn hdf fun w s0 z mg mb fa o pm cd doc a vs ns G Y _ _ _ hmg hobj hints hlen hbits hg => ?_
  obtain ⟨K, fd, sp, cs, KX, hT, hC, hno, hb, hsp, hF⟩ := F w mg fa _ Y G.T.g hmg
  have rv := vals_ints hints
  have hle : ns.length ≤ sizeLine := Nat.le_trans hlen hn2
  have notT : ∀ p ∈ cs, p.2 ≠ a := fun p hp e => by
    have y := hT p hp
    rw [e, hobj] at y
    have y2 : Data.seq vs.toArray _ = Data.fields #[] := congrArg Obj.data (Option.some.inj y)
    cases y2
  obtain ⟨tb, htb⟩ : ∃ tb : Addr → Bool, ∀ b, tb b = true ↔ ∃ p ∈ cs, p.2 = b := ⟨fun b => cs.any fun p => p.2 == b, fun b => by simp [List.any_eq_true]⟩
  cases hk : K.lookup a with
  | some ob =>
    refine lawAtT (cs := cs) (fun b => if tb b = true then some (.tbl #[]) else none) KX G.T.g G.T.b G.T.builtins G.T.nolimit hg hT hC G.T.bmain hobj rv hle hr hF hb (fun b u y => ?_) (fun p hp => if_pos ((htb _).mpr ⟨p, hp, rfl⟩)) (fun b u y => ?_)
      (hsp _ a ns hlen hbits (fun p hp => if_pos ((htb _).mpr ⟨p, hp, rfl⟩)) (Or.inr ?_))
    · by_cases e : tb b = true
      · have y2 := (if_pos e).symm.trans y
        cases y2
        exact Or.inr ⟨(htb b).mp e, rfl⟩
      · have y2 := (if_neg e).symm.trans y
        cases y2
    · by_cases e : tb b = true
      · obtain ⟨p, hp, rfl⟩ := (htb b).mp e
        exact hno p hp
      · have y2 := (if_neg e).symm.trans y
        cases y2
    have e := KX a ob hk
    rw [hobj] at e
    cases e
    exact ⟨_, vs.toArray, _, hk, rfl, rfl, rfl, by rw [List.size_toArray, hints.length]; exact hle, by simpa using rv⟩
  | none =>
    have at_a : (fun b => if b = a then some (HO.frz (scrO vs) (.lst (ns.map V.int))) else if tb b = true then some (.tbl #[]) else none : Hp) a = some (HO.frz (scrO vs) (.lst (ns.map V.int))) := if_pos rfl
    have at_t : ∀ p ∈ cs, (fun b => if b = a then some (HO.frz (scrO vs) (.lst (ns.map V.int))) else if tb b = true then some (.tbl #[]) else none : Hp) p.2 = some (.tbl #[]) := fun p hp => (if_neg (notT p hp)).trans (if_pos ((htb _).mpr ⟨p, hp, rfl⟩))
    refine lawAtT (cs := cs) (fun b => if b = a then some (HO.frz (scrO vs) (.lst (ns.map V.int))) else if tb b = true then some (.tbl #[]) else none) KX G.T.g G.T.b G.T.builtins G.T.nolimit hg hT hC G.T.bmain hobj rv hle hr hF hb (fun b u y => ?_) at_t (fun b u y => ?_)
      (hsp _ a ns hlen hbits at_t (Or.inl (Or.inr ⟨_, at_a⟩)))
    · by_cases e : b = a
      · have y2 := (if_pos e).symm.trans y
        cases y2
        exact Or.inl ⟨e, rfl⟩
      · have y1 := (if_neg e).symm.trans y
        by_cases e2 : tb b = true
        · have y2 := (if_pos e2).symm.trans y1
          cases y2
          exact Or.inr ⟨(htb b).mp e2, rfl⟩
        · have y2 := (if_neg e2).symm.trans y1
          cases y2
    · by_cases e : b = a
      · rw [e]
        exact hk
      · have y1 := (if_neg e).symm.trans y
        by_cases e2 : tb b = true
        · obtain ⟨p, hp, rfl⟩ := (htb b).mp e2
          exact hno p hp
        · have y2 := (if_neg e2).symm.trans y1
          cases y2
end Kv
namespace Kv
open PySem PySem.Spec PyProof.Rows L2
/-! ### things: leaves, tuples, lists, dicts of ints -/
/-- pairs of ints, as a dict's -/
def kvI (kvs : List (Int × Int)) : List (Key × V) := kvs.map fun p => (Sum.inl p.1, V.int p.2)
def kvD (kvs : List (Int × Int)) : List (PyData × PyData) := kvs.map fun p => (.int p.1, .int p.2)
mutual
inductive Th (H : Hp) : V → PyData → Prop
  | non : Th H .non .none
  | bl (b : Bool) : Th H (.bl b) (.bool b)
  | int (i : Int) : Th H (.int i) (.int i)
  | str (x : Str) : Th H (.str x) (.str x)
  | lst {a : Addr} {vs : List V} {ds : List PyData} (ha : H a = some (.lst vs)) (h : ThAll H vs ds) : Th H (.ref a) (.list ds)
  | tup {a : Addr} {vs : List V} {ds : List PyData} (ha : H a = some (.tup vs)) (h : ThAll H vs ds) (hl : vs.length ≤ 100) : Th H (.ref a) (.tuple ds)
  | dic {a : Addr} {kvs : List (Int × Int)} (ha : H a = some (.dK (kvI kvs))) (hl : kvs.length ≤ 100) : Th H (.ref a) (.dict (kvD kvs))
inductive ThAll (H : Hp) : List V → List PyData → Prop
  | nil : ThAll H [] []
  | cons {v : V} {d : PyData} {vs : List V} {ds : List PyData} (h : Th H v d) (t : ThAll H vs ds) : ThAll H (v :: vs) (d :: ds)
end
section
variable {H H2 : Hp} {K : PySem.W.Frag}
mutual
theorem Th.keep (e : Same H H2) : ∀ {d : PyData} {v : V}, Th H v d → Th H2 v d
  | .none, _, h => by cases h; exact .non
  | .bool b, _, h => by cases h; exact .bl b
  | .int i, _, h => by cases h; exact .int i
  | .str x, _, h => by cases h; exact .str x
  | .list ds, _, h => by
    cases h with
    | lst ha h => exact .lst (e _ _ ha) (ThAll.keep e h)
  | .tuple ds, _, h => by
    cases h with
    | tup ha h hl => exact .tup (e _ _ ha) (ThAll.keep e h) hl
  | .dict _, _, h => by
    cases h with
    | dic ha hl => exact .dic (e _ _ ha) hl
theorem ThAll.keep (e : Same H H2) : ∀ {ds : List PyData} {vs : List V}, ThAll H vs ds → ThAll H2 vs ds
  | [], _, h => by cases h; exact .nil
  | d :: ds, _, h => by
    cases h with
    | cons h1 h2 => exact .cons (Th.keep e h1) (ThAll.keep e h2)
end
theorem ThAll.length : ∀ {vs : List V} {ds : List PyData}, ThAll H vs ds → vs.length = ds.length
  | _, _, .nil => rfl
  | _, _, .cons _ t => congrArg (· + 1) t.length
theorem ThAll.get : ∀ {vs : List V} {ds : List PyData}, ThAll H vs ds → ∀ {i : Nat} {v : V}, vs[i]? = some v → ∃ d, ds[i]? = some d ∧ Th H v d
  | _, _, .nil, i, v, e => by simp at e
  | _, _, .cons h t, 0, v, e => by
    simp at e
    subst e
    exact ⟨_, rfl, h⟩
  | _, _, .cons h t, i + 1, v, e => by
    simp at e
    obtain ⟨d, h1, h2⟩ := t.get e
    exact ⟨d, by simpa using h1, h2⟩
theorem ThAll.append : ∀ {vs ws : List V} {ds es : List PyData}, ThAll H vs ds → ThAll H ws es → ThAll H (vs ++ ws) (ds ++ es)
  | _, _, _, _, .nil, h => h
  | _, _, _, _, .cons h t, h2 => .cons h (ThAll.append t h2)
theorem ThAll.take : ∀ {vs : List V} {ds : List PyData}, ThAll H vs ds → ∀ n, ThAll H (vs.take n) (ds.take n)
  | _, _, .nil, n => by simp; exact .nil
  | _, _, .cons h t, 0 => .nil
  | _, _, .cons h t, n + 1 => .cons h (t.take n)
theorem ThAll.drop : ∀ {vs : List V} {ds : List PyData}, ThAll H vs ds → ∀ n, ThAll H (vs.drop n) (ds.drop n)
  | _, _, .nil, n => by simp; exact .nil
  | _, _, .cons h t, 0 => .cons h t
  | _, _, .cons h t, n + 1 => t.drop n
/-- the type's name -/
def tyNm : PyData → String
  | .none => "NoneType"
  | .bool _ => "bool"
  | .int _ => "int"
  | .str _ => "str"
  | .list _ => "list"
  | .tuple _ => "tuple"
  | .dict _ => "dict"
theorem Th.tyx {x : V} {d : PyData} (h : Th H x d) : TyX K H x (.type (tyNm d)) := by
  cases h with
  | non => exact .base .non
  | bl b => exact .base (.bl b)
  | int i => exact .base (.int i)
  | str x => exact .base (.str x)
  | lst ha h => exact .base (.lst ha)
  | tup ha h hl => exact .base (.tup ha)
  | dic ha hl => exact .base (.dK ha)
def isInt : PyData → Bool
  | .int _ => true
  | .bool _ => true
  | _ => false
def isBl : PyData → Bool
  | .bool _ => true
  | _ => false
def isTup : PyData → Bool
  | .tuple _ => true
  | _ => false
theorem kit_int (d : PyData) : PySem.W.kitOne K (.type (tyNm d)) (.type "int") = some (isInt d) := by cases d <;> rfl
theorem kit_bool (d : PyData) : PySem.W.kitOne K (.type (tyNm d)) (.type "bool") = some (isBl d) := by cases d <;> rfl
theorem kit_tup (d : PyData) : PySem.W.kitOne K (.type (tyNm d)) (.type "tuple") = some (isTup d) := by cases d <;> rfl
/-- isinstance(x, int), isinstance(x, bool), isinstance(x, tuple) -/
theorem isi_int {x : V} {d : PyData} {Q : VK} (h : Th H x d) (q : Q (.bl (isInt d)) H) : rIsi K [x, .ty "int"] H Q := ⟨x, _, _, _, _, rfl, .ty _, h.tyx, kit_int d, q⟩
theorem isi_bool {x : V} {d : PyData} {Q : VK} (h : Th H x d) (q : Q (.bl (isBl d)) H) : rIsi K [x, .ty "bool"] H Q := ⟨x, _, _, _, _, rfl, .ty _, h.tyx, kit_bool d, q⟩
theorem isi_tup {x : V} {d : PyData} {Q : VK} (h : Th H x d) (q : Q (.bl (isTup d)) H) : rIsi K [x, .ty "tuple"] H Q := ⟨x, _, _, _, _, rfl, .ty _, h.tyx, kit_tup d, q⟩
/-- an integer from lo to hi -/
def isBt (d : PyData) (lo hi : Int) : Bool := match d with
  | .int i => decide (lo ≤ i) && decide (i ≤ hi)
  | _ => false
def neI : PyData → PyData → Bool
  | .int i, .int j => !decide (i = j)
  | _, _ => true
/-- a pair of unlike numbers below m -/
def isPr (d : PyData) (m : Int) : Bool := match d with
  | .tuple [a, b] => isBt a 0 (m - 1) && (isBt b 0 (m - 1) && neI a b)
  | _ => false
/-- the number of the first that is none -/
def firstBad (m : Int) : List PyData → Nat → Option Nat
  | [], _ => none
  | d :: ds, i => if isPr d m = true then firstBad m ds (i + 1) else some i
/-- what is wrong of a net's parts, none if nothing -/
def wrongV (m r l : PyData) : V :=
  if isBt m 2 10 = true then match m with
    | .int mi => if isBt r 0 (mi - 1) = true then match l with
        | .tuple ds => if ds.length > 60 then .str "links" else match firstBad mi ds 0 with
            | some i => .int (i : Int)
            | none => .non
        | _ => .str "links"
      else .str "root"
    | _ => .str "many"
  else .str "many"
section
variable {dx dy dz : PyData} {mi : Int} {ds : List PyData} {i : Nat}
theorem wv_many (h : isBt dx 2 10 = false) : wrongV dx dy dz = .str "many" := if_neg (by rw [h]; decide)
theorem wv_root (h1 : isBt (.int mi) 2 10 = true) (h2 : isBt dy 0 (mi - 1) = false) : wrongV (.int mi) dy dz = .str "root" := (if_pos h1).trans (if_neg (by rw [h2]; decide))
theorem wv_links (h1 : isBt (.int mi) 2 10 = true) (h2 : isBt dy 0 (mi - 1) = true) (h3 : isTup dz = false) : wrongV (.int mi) dy dz = .str "links" := by
  refine (if_pos h1).trans ((if_pos h2).trans ?_)
  cases dz with
  | tuple _ => cases h3
  | _ => rfl
theorem wv_long (h1 : isBt (.int mi) 2 10 = true) (h2 : isBt dy 0 (mi - 1) = true) (h3 : 60 < ds.length) : wrongV (.int mi) dy (.tuple ds) = .str "links" := (if_pos h1).trans ((if_pos h2).trans (if_pos h3))
theorem wv_item (h1 : isBt (.int mi) 2 10 = true) (h2 : isBt dy 0 (mi - 1) = true) (h3 : ¬ 60 < ds.length) (h4 : firstBad mi ds 0 = some i) : wrongV (.int mi) dy (.tuple ds) = .int (i : Int) := by
  refine (if_pos h1).trans ((if_pos h2).trans ((if_neg h3).trans ?_))
  rw [h4]
theorem wv_none (h1 : isBt (.int mi) 2 10 = true) (h2 : isBt dy 0 (mi - 1) = true) (h3 : ¬ 60 < ds.length) (h4 : firstBad mi ds 0 = none) : wrongV (.int mi) dy (.tuple ds) = .non := by
  refine (if_pos h1).trans ((if_pos h2).trans ((if_neg h3).trans ?_))
  rw [h4]
end
theorem isBt_int {d : PyData} {lo hi : Int} (h : isBt d lo hi = true) : ∃ i, d = .int i ∧ lo ≤ i ∧ i ≤ hi := by
  cases d with
  | int i =>
    have e : (decide (lo ≤ i) && decide (i ≤ hi)) = true := h
    rw [Bool.and_eq_true, decide_eq_true_eq, decide_eq_true_eq] at e
    exact ⟨i, rfl, e.1, e.2⟩
  | _ => cases h
theorem firstBad_drop {m : Int} {ds : List PyData} {i : Nat} {d : PyData} (e : firstBad m ds 0 = firstBad m (ds.drop i) i) (hd : ds[i]? = some d) :
    (isPr d m = true → firstBad m ds 0 = firstBad m (ds.drop (i + 1)) (i + 1)) ∧ (isPr d m = false → firstBad m ds 0 = some i) := by
  obtain ⟨hi, e2⟩ := List.getElem?_eq_some_iff.mp hd
  have e3 : ds.drop i = d :: ds.drop (i + 1) := by rw [List.drop_eq_getElem_cons hi, e2]
  rw [e3] at e
  refine ⟨fun h => ?_, fun h => ?_⟩
  · rw [e]
    exact if_pos h
  · rw [e]
    exact if_neg (by rw [h]; decide)
end
end Kv
namespace Kv
open PySem PySem.Spec PyProof.Rows L2
/-! ### readings that give things -/
theorem newS {H : Hp} {p : Addr} {o : HO} (h : H p = none) : Same H (upd H p o) := fun b u e => by
  rw [upd_ne (ne_of_none e h)]
  exact e
/-- whenever it is read behind H, it gives a thing -/
def ThE (te : TE) (σ : L2.St) (H : Hp) : Prop := ∀ H1, Same H H1 → ∀ Q : VK, (∀ v d H2, Same H1 H2 → Th H2 v d → Q v H2) → te σ H1 Q
def ThA (n : Nat) (ta : TA) (σ : L2.St) (H : Hp) : Prop := ∀ H1, Same H H1 → ∀ Q : List V → Hp → Prop, (∀ vs ds H2, Same H1 H2 → ThAll H2 vs ds → vs.length = n → Q vs H2) → ta σ H1 Q
section
variable {σ : L2.St} {H : Hp} {te ta tb : TE} {tr : TA} {n : Nat}
theorem ThE.non : ThE (tC .non) σ H := fun H1 _ Q k => k _ _ H1 (Same.refl _) .non
theorem ThE.bl {b : Bool} : ThE (tC (.bl b)) σ H := fun H1 _ Q k => k _ _ H1 (Same.refl _) (.bl b)
theorem ThE.int {i : Int} : ThE (tC (.int i)) σ H := fun H1 _ Q k => k _ _ H1 (Same.refl _) (.int i)
theorem ThE.str {x : Str} : ThE (tC (.str x)) σ H := fun H1 _ Q k => k _ _ H1 (Same.refl _) (.str x)
theorem ThE.neg {i : Int} : ThE (tUn (rU fun i => .int (-i)) (tC (.int i))) σ H := fun H1 _ Q k => ⟨i, rfl, k _ _ H1 (Same.refl _) (.int (-i))⟩
theorem ThE.pow {i j : Int} (h : CPow i j) : ThE (tOp (rI CPow fun i j => .int (i ^ j.toNat)) (tC (.int i)) (tC (.int j))) σ H := fun H1 _ Q k => ⟨i, j, rfl, rfl, h, k _ _ H1 (Same.refl _) (.int _)⟩
theorem ThE.var {i : Nat} {v : V} {d : PyData} (e : σ[i]? = some (some v)) (h : Th H v d) : ThE (tVar i) σ H := fun H1 s Q k => ⟨v, e, k _ _ H1 (Same.refl _) (h.keep s)⟩
theorem ThE.dic : ThE tDNewK σ H := fun H1 _ Q k p np => k _ _ _ (newS np) (.dic (kvs := []) upd_same (Nat.zero_le _))
theorem ThA.nil : ThA 0 tNil σ H := fun H1 _ Q k => k [] [] H1 (Same.refl _) .nil rfl
theorem ThA.cons (h : ThE te σ H) (t : ThA n tr σ H) : ThA (n + 1) (tCons te tr) σ H := fun H1 s Q k => h H1 s _ fun v d H2 s2 hv => t H2 (s.trans s2) _ fun vs ds H3 s3 hs hn => k (v :: vs) (d :: ds) H3 (s2.trans s3) (.cons (hv.keep s3) hs) (by rw [List.length_cons, hn])
theorem ThE.tup (h : ThA n tr σ H) (hn : n ≤ 100 := by decide) : ThE (tTup tr) σ H := fun H1 s Q k => h H1 s _ fun vs ds H2 s2 hs e => ⟨by rw [e]; exact Nat.le_trans hn (by decide), fun p np => k _ _ _ (s2.trans (newS np)) (.tup upd_same (hs.keep (newS np)) (by rw [e]; exact hn))⟩
theorem ThE.lst (h : ThA n tr σ H) (hn : n ≤ 1000 := by decide) : ThE (tLst tr) σ H := fun H1 s Q k => h H1 s _ fun vs ds H2 s2 hs e => ⟨by rw [e]; exact Nat.le_trans hn (by decide), fun p np => k _ _ _ (s2.trans (newS np)) (.lst upd_same (hs.keep (newS np)))⟩
/-- a new list of n things -/
theorem lstOf {Q : VK} (h : ThA n tr σ H) (hn : n ≤ 1000) (k : ∀ p vs ds H2, H p = none → Same H H2 → H2 p = some (.lst vs) → ThAll H2 vs ds → vs.length = n → Q (.ref p) H2) : tLst tr σ H Q :=
  h H (Same.refl _) _ fun vs ds H2 s2 hs e => ⟨by rw [e]; exact Nat.le_trans hn (by decide), fun p np => k p vs ds _ (s2.free np) (s2.trans (newS np)) upd_same (hs.keep (newS np)) e⟩
theorem tupOf {Q : VK} (h : ThA n tr σ H) (hn : n ≤ 1000) (k : ∀ p vs ds H2, H p = none → Same H H2 → H2 p = some (.tup vs) → ThAll H2 vs ds → vs.length = n → Q (.ref p) H2) : tTup tr σ H Q :=
  h H (Same.refl _) _ fun vs ds H2 s2 hs e => ⟨by rw [e]; exact Nat.le_trans hn (by decide), fun p np => k p vs ds _ (s2.free np) (s2.trans (newS np)) upd_same (hs.keep (newS np)) e⟩
end
/-! ### parts of tuples -/
section
variable {K : PySem.W.Frag} {σ : L2.St} {H : Hp}
theorem cutWhole {xs : List V} {lo hi : Option Int} (h : HT.sIx xs.length 0 lo = 0 ∧ HT.sIx xs.length xs.length hi = xs.length) : cutV xs lo hi = xs := by
  unfold cutV
  rw [h.1, h.2, List.drop_zero, Nat.sub_zero, List.take_length]
theorem cutLen (xs : List V) (n : Nat) : (cutV xs none (some (n : Int))).length ≤ n := by
  unfold cutV
  rw [List.length_take, HT.sIx_nat]
  omega
theorem cutAt (xs : List V) (n : Nat) (h : n < xs.length) (v : V) : ((cutV xs none (some (n : Int)) ++ [v]) ++ cutV xs (some ((n : Int) + 1)) none).length = xs.length := by
  have e : ((n : Int) + 1) = ((n + 1 : Nat) : Int) := rfl
  rw [e]
  unfold cutV
  rw [List.length_append, List.length_append, List.length_take, List.length_take, List.length_drop, List.length_drop, HT.sIx_nat, HT.sIx_nat, HT.sIx_none, HT.sIx_none]
  show min (min n xs.length - 0) (xs.length - 0) + 1 + min (xs.length - min (n + 1) xs.length) (xs.length - min (n + 1) xs.length) = xs.length
  omega
/-- list(t) of a tuple or list in a name -/
theorem ThE.list {i : Nat} {l : Addr} {vs : List V} {ds : List PyData} (e : σ[i]? = some (some (.ref l))) (hl : H l = some (.tup vs)) (hs : ThAll H vs ds) :
    ThE (tCB (fun xs H Q => ∃ p ys, xs = [.ref p] ∧ (SqL K H p ys ∨ SqT K H p ys) ∧ ∀ l, H l = none → Q (.ref l) (upd H l (.lst ys))) (tCons (tVar i) tNil)) σ H := fun H1 s Q k =>
  ⟨_, e, l, vs, rfl, Or.inr (SqT.of (s _ _ hl)), fun q nq => k _ _ _ (newS nq) (.lst upd_same ((hs.keep s).keep (newS nq)))⟩
/-- t[:n] -/
theorem ThE.cut {i n : Nat} {l : Addr} {vs : List V} {ds : List PyData} (e : σ[i]? = some (some (.ref l))) (hl : H l = some (.tup vs)) (hs : ThAll H vs ds) (hn : n ≤ 100) :
    ThE (tSl (rSlA K) (tVar i) tNoPart (tPart (tC (.int (n : Int))))) σ H := fun H1 s Q k => by
  have hc : ThAll H1 (cutV vs none (some (n : Int))) _ := ((hs.keep s).drop _).take _
  refine ⟨_, e, (n : Int), rfl, l, vs, rfl, SqT.of (s _ _ hl), fun h => k _ _ H1 (Same.refl _) (.tup (s _ _ hl) (hs.keep s) ?_), fun _ p np => k _ _ _ (newS np) (.tup upd_same (hc.keep (newS np)) (Nat.le_trans (cutLen vs n) hn))⟩
  have := cutLen vs n
  rw [cutWhole h] at this
  exact Nat.le_trans this hn
end
section
variable {K : PySem.W.Frag} {H : Hp} {Q : VK}
theorem slTup {a : Addr} {xs : List V} {lo hi : Option Int} (ha : H a = some (.tup xs)) (k : ∀ q H2, Same H H2 → H2 q = some (.tup (cutV xs lo hi)) → Q (.ref q) H2) : rSlA K (.ref a) lo hi H Q :=
  ⟨a, xs, rfl, SqT.of ha, fun h => k a H (Same.refl _) (by rw [cutWhole h]; exact ha), fun _ p np => k p _ (newS np) upd_same⟩
theorem catTup {a b : Addr} {xs ys : List V} (ha : H a = some (.tup xs)) (hb : H b = some (.tup ys)) (hl : xs.length + ys.length ≤ 10000) (k : ∀ q H2, Same H H2 → H2 q = some (.tup (xs ++ ys)) → Q (.ref q) H2) : rCatA K (.ref a) (.ref b) H Q := by
  refine ⟨a, b, xs, ys, rfl, rfl, SqT.of ha, SqT.of hb, Nat.le_trans hl (by decide), fun e => ?_, fun _ e => ?_, fun _ _ p np => k p _ (newS np) upd_same⟩
  · subst e
    exact k b H (Same.refl _) hb
  · subst e
    exact k a H (Same.refl _) (by rw [List.append_nil]; exact ha)
theorem ThAll.cut {xs : List V} {ds : List PyData} (h : ThAll H xs ds) (lo hi : Option Int) : ∃ es, ThAll H (cutV xs lo hi) es := ⟨_, (h.drop _).take _⟩
theorem ThAll.rep {xs : List V} {ds : List PyData} (h : ThAll H xs ds) : ∀ n : Nat, ∃ es, ThAll H (List.replicate n xs).flatten es
  | 0 => ⟨[], .nil⟩
  | n + 1 => by
    obtain ⟨es, he⟩ := ThAll.rep h n
    refine ⟨ds ++ es, ?_⟩
    rw [List.replicate_succ, List.flatten_cons]
    exact h.append he
end
end Kv
namespace Kv
open PySem PySem.Spec PyProof.Rows L2

/-- the built-ins -/
structure Bn (mg : Str → Option Value) : Prop where
  len : mg "len" = none
  int : mg "int" = none
  abs : mg "abs" = none
  isi : mg "isinstance" = none
  rng : mg "range" = none
  bool : mg "bool" = none
  lst : mg "list" = none
  tup : mg "tuple" = none
  dct : mg "dict" = none
  all : mg "all" = none
  enm : mg "enumerate" = none
  rep : mg "repr" = none
  max : mg "max" = none
  min : mg "min" = none
  srt : mg "sorted" = none
  set : mg "set" = none
  sum : mg "sum" = none
  zip : mg "zip" = none
abbrev FnP (K : PySem.W.Frag) (x : Str) (st : Stmt) (f : Addr) (fd : FuncData) : Prop := FunD K x x (defArgs st) (defBody st) (defScope st) [] [] f fd
/-- a def of the top, by its name -/
structure DnP (K : PySem.W.Frag) (mg : Str → Option Value) (x : Str) (st : Stmt) (ps : List Str) (f : Addr) (fd : FuncData) : Prop where
  F : FnP K x st f fd
  g : mg x = some (.ref f)
  b : Binds K fd ps []
theorem sameNew {H : Hp} {p : Addr} {o : HO} (h : H p = none) : Same H (upd H p o) := fun b u e => by
  rw [upd_ne (ne_of_none e h)]
  exact e
theorem samePast {H H2 : Hp} {p : Addr} {o : HO} (s : Same H H2) (h : H2 p = none) : Same H (upd H2 p o) := s.trans (sameNew h)
/-- a change of what H does not know -/
theorem samePut {H H2 : Hp} {p : Addr} {o : HO} (s : Same H H2) (h : H p = none) : Same H (upd H2 p o) := fun b u e => by
  rw [upd_ne (ne_of_none e h)]
  exact s b u e
theorem mem_cutV {xs : List V} {lo hi : Option Int} {x : V} (h : x ∈ cutV xs lo hi) : x ∈ xs := List.mem_of_mem_drop (List.mem_of_mem_take h)
def unInt : V → Int
  | .int z => z
  | _ => 0
theorem permInts {ys : List V} {acc : List Int} (h : ys.Perm (acc.map V.int)) : ∃ zs : List Int, ys = zs.map V.int ∧ zs.Perm acc := by
  refine ⟨ys.map unInt, ?_, ?_⟩
  · rw [List.map_map]
    have e : ∀ y ∈ ys, (V.int ∘ unInt) y = y := fun y hy => by
      obtain ⟨z, _, ez⟩ := List.mem_map.mp (h.mem_iff.mp hy)
      rw [← ez]
      rfl
    have e2 : ys.map (V.int ∘ unInt) = ys.map id := List.map_congr_left e
    rw [e2, List.map_id]
  · have h2 := h.map unInt
    rw [List.map_map] at h2
    have e : acc.map (unInt ∘ V.int) = acc.map id := List.map_congr_left fun z _ => rfl
    rw [e, List.map_id] at h2
    exact h2
theorem takeSucc {α : Type} : ∀ (l : List α) {i : Nat} {y : α}, l[i]? = some y → l.take (i + 1) = l.take i ++ [y]
  | [], i, y, h => by simp at h
  | a :: l, 0, y, h => by
    have e : a = y := Option.some.inj h
    rw [e]
    rfl
  | a :: l, i + 1, y, h => congrArg (a :: ·) (takeSucc l (i := i) (y := y) h)
theorem notTake : ∀ {l : List Int} {i : Nat} {z : Int}, l.Nodup → l[i]? = some z → z ∉ l.take i
  | [], _, _, _, h => by simp at h
  | a :: l, 0, _, _, _ => by simp
  | a :: l, i + 1, z, hn, h => by
    have h1 : l[i]? = some z := by simpa using h
    obtain ⟨n1, n2⟩ := List.nodup_cons.mp hn
    rw [List.take_succ_cons]
    intro hz
    rcases List.mem_cons.mp hz with e | hz
    · exact n1 (e ▸ List.mem_of_getElem? h1)
    · exact notTake n2 h1 hz
theorem seqIx {r n : Nat} (h : r < n) : seqIndex? (r : Int) n = some r := by
  have h0 : ¬ ((r : Int) < 0) := by omega
  unfold seqIndex?
  simp [h0, h]
theorem permErase {α : Type} : ∀ {l : List α} {i : Nat} {y : α}, l[i]? = some y → (y :: l.eraseIdx i).Perm l
  | [], i, y, h => by simp at h
  | a :: l, 0, y, h => by
    simp at h
    subst h
    exact List.Perm.refl _
  | a :: l, i + 1, y, h => by
    rw [List.eraseIdx_cons_succ]
    exact (List.Perm.swap a y _).trans ((permErase (l := l) (by simpa using h)).cons a)
theorem sameL {K : PySem.W.Frag} {H H2 : Hp} {a : Addr} {xs : List V} (e : Same H H2) (h : SqL K H a xs) : SqL K H2 a xs := e.seq h
theorem sameT {K : PySem.W.Frag} {H H2 : Hp} {a : Addr} {xs : List V} (e : Same H H2) (h : SqT K H a xs) : SqT K H2 a xs := by
  rcases h with (h | ⟨o, h⟩) | h
  · exact Or.inl (Or.inl (e _ _ h))
  · exact Or.inl (Or.inr ⟨o, e _ _ h⟩)
  · exact Or.inr h
end Kv
/-! comprehensions of ints: filtered and mapped -/
namespace Kv
open PySem PySem.Spec PyProof.Rows L2
/-- what a comprehension over the walk J asks at its list D -/
abbrev LcAt (J : It) (g : TG) (tt : TT) (te : TE) (vs : List Nat) (σ : L2.St) (D : Addr) (H1 : Hp) (Qd : Hp → Prop) : Prop :=
  ∃ W : Nat → Nat → Hp → Prop, (∃ m, W 0 m (upd H1 D (.lst []))) ∧ ∀ i m G, W i m G → (J.stop i G ∧ Qd G) ∨ (J.go i G ∧ ∃ Nx : Hp → Prop, (∀ G2, Nx G2 → ∃ m2, m2 < m ∧ W (i + 1) m2 G2) ∧
    ∀ x G2, J.yld i G x G2 → g x (wipe σ vs) G2 fun τ G3 => wipe τ vs = wipe σ vs ∧ tt τ G3 fun b G4 => if b = true then te τ G4 fun y G5 => ∃ acc, G5 D = some (.lst acc) ∧ acc.length < sizeLine ∧ Nx (upd G5 D (.lst (acc ++ [y]))) else Nx G4)
theorem flat_ints (l : List Int) : (l.map V.int).all flatV = true := by
  induction l with
  | nil => rfl
  | cons z l ih => rw [List.map_cons, List.all_cons, ih] <;> rfl
theorem inV_ints {r : Int} : ∀ l : List Int, inV (.int r) (l.map V.int) = l.contains r
  | [] => rfl
  | z :: l => by
    have e : inV (.int r) (V.int z :: l.map V.int) = (eqV (.int z) (.int r) || inV (.int r) (l.map V.int)) := rfl
    rw [List.map_cons, e, inV_ints l, List.contains_cons]
    congr 1
    show (z == r) = (r == z)
    exact Bool.beq_comm
section
variable {K : PySem.W.Frag} {a D : Addr} {zs : List Int} {j : Nat} {tt : TT} {te : TE} {σ : L2.St} {H1 : Hp} {Qd : Hp → Prop}
/-- one turn -/
theorem turnV (p : Int → Bool) (f : Int → V) (hlen : zs.length ≤ 1000) (nD : H1 D = none)
    (ht : ∀ z ∈ zs, ∀ G, Same H1 G → ∀ R : Bool → Hp → Prop, (∀ G2, Same G G2 → R (p z) G2) → tt ((wipe σ [j]).set j (some (.int z))) G R)
    (he : ∀ z ∈ zs, p z = true → ∀ G, Same H1 G → ∀ R : VK, (∀ G2, Same G G2 → R (f z) G2) → te ((wipe σ [j]).set j (some (.int z))) G R)
    {i : Nat} {z : Int} {G : Hp} (hz : zs[i]? = some z) (s : Same H1 G) (hD : G D = some (.lst (((zs.take i).filter p).map f))) :
    tt ((wipe σ [j]).set j (some (.int z))) G fun b G4 => if b = true then te ((wipe σ [j]).set j (some (.int z))) G4 fun y G5 => ∃ acc, G5 D = some (.lst acc) ∧ acc.length < sizeLine ∧ (Same H1 (upd G5 D (.lst (acc ++ [y]))) ∧ upd G5 D (.lst (acc ++ [y])) D = some (.lst (((zs.take (i + 1)).filter p).map f))) else (Same H1 G4 ∧ G4 D = some (.lst (((zs.take (i + 1)).filter p).map f))) := by
  have mz := List.mem_of_getElem? hz
  refine ht z mz G s _ fun G2 s2 => ?_
  cases hp : p z with
  | true =>
    refine iteT (he z mz hp G2 (s.trans s2) _ fun G3 s3 => ⟨_, s3 _ _ (s2 _ _ hD), ?_, samePut ((s.trans s2).trans s3) nD, ?_⟩)
    · rw [List.length_map]
      exact Nat.lt_of_le_of_lt (Nat.le_trans (List.length_filter_le _ _) (by rw [List.length_take]; omega)) (show 1000 < sizeLine by decide)
    · rw [upd_same, takeSucc zs hz, List.filter_append, List.map_append]
      have e : [z].filter p = [z] := by simp [hp]
      rw [e]
      rfl
  | false =>
    refine iteF ⟨s.trans s2, ?_⟩
    rw [s2 _ _ hD, takeSucc zs hz, List.filter_append]
    have e : [z].filter p = [] := by simp [hp]
    rw [e, List.append_nil]
theorem lcV_list (p : Int → Bool) (f : Int → V) (src : SqL K H1 a (zs.map V.int)) (hlen : zs.length ≤ 1000) (nD : H1 D = none)
    (ht : ∀ z ∈ zs, ∀ G, Same H1 G → ∀ R : Bool → Hp → Prop, (∀ G2, Same G G2 → R (p z) G2) → tt ((wipe σ [j]).set j (some (.int z))) G R)
    (he : ∀ z ∈ zs, p z = true → ∀ G, Same H1 G → ∀ R : VK, (∀ G2, Same G G2 → R (f z) G2) → te ((wipe σ [j]).set j (some (.int z))) G R)
    (fin : ∀ G, Same H1 G → G D = some (.lst ((zs.filter p).map f)) → Qd G) (hw : ∀ x, wipe ((wipe σ [j]).set j (some x)) [j] = wipe σ [j] := by intro x; rfl) : LcAt (Itl K a) (gName j) tt te [j] σ D H1 Qd := by
  refine lc_list (xs := zs.map V.int) (fun i G => Same H1 G ∧ G D = some (.lst (((zs.take i).filter p).map f))) ⟨sameNew nD, upd_same⟩ (fun i G _ h => sameL h.1 src) (fun i x G hx h => ?_) (fun G h => ?_)
  · rw [List.getElem?_map] at hx
    obtain ⟨z, hz, rfl⟩ := Option.map_eq_some_iff.mp hx
    exact ⟨hw _, turnV p f hlen nD ht he hz h.1 h.2⟩
  · have e := h.2
    rw [List.length_map, List.take_length] at e
    exact fin G h.1 e
theorem lcV_tup (p : Int → Bool) (f : Int → V) (src : SqT K H1 a (zs.map V.int)) (hlen : zs.length ≤ 1000) (nD : H1 D = none)
    (ht : ∀ z ∈ zs, ∀ G, Same H1 G → ∀ R : Bool → Hp → Prop, (∀ G2, Same G G2 → R (p z) G2) → tt ((wipe σ [j]).set j (some (.int z))) G R)
    (he : ∀ z ∈ zs, p z = true → ∀ G, Same H1 G → ∀ R : VK, (∀ G2, Same G G2 → R (f z) G2) → te ((wipe σ [j]).set j (some (.int z))) G R)
    (fin : ∀ G, Same H1 G → G D = some (.lst ((zs.filter p).map f)) → Qd G) (hw : ∀ x, wipe ((wipe σ [j]).set j (some x)) [j] = wipe σ [j] := by intro x; rfl) : LcAt (Itt K a) (gName j) tt te [j] σ D H1 Qd := by
  refine lc_tup (xs := zs.map V.int) (fun i G => Same H1 G ∧ G D = some (.lst (((zs.take i).filter p).map f))) ⟨sameNew nD, upd_same⟩ (fun i G _ h => sameT h.1 src) (fun i x G hx h => ?_) (fun G h => ?_)
  · rw [List.getElem?_map] at hx
    obtain ⟨z, hz, rfl⟩ := Option.map_eq_some_iff.mp hx
    exact ⟨hw _, turnV p f hlen nD ht he hz h.1 h.2⟩
  · have e := h.2
    rw [List.length_map, List.take_length] at e
    exact fin G h.1 e
theorem mapI (f : Int → Int) (l : List Int) : (l.map f).map V.int = l.map fun z => V.int (f z) := by rw [List.map_map]; rfl
theorem lcI_list (p : Int → Bool) (f : Int → Int) (src : SqL K H1 a (zs.map V.int)) (hlen : zs.length ≤ 1000) (nD : H1 D = none)
    (ht : ∀ z ∈ zs, ∀ G, Same H1 G → ∀ R : Bool → Hp → Prop, (∀ G2, Same G G2 → R (p z) G2) → tt ((wipe σ [j]).set j (some (.int z))) G R)
    (he : ∀ z ∈ zs, p z = true → ∀ G, Same H1 G → ∀ R : VK, (∀ G2, Same G G2 → R (.int (f z)) G2) → te ((wipe σ [j]).set j (some (.int z))) G R)
    (fin : ∀ G, Same H1 G → G D = some (.lst (((zs.filter p).map f).map V.int)) → Qd G) (hw : ∀ x, wipe ((wipe σ [j]).set j (some x)) [j] = wipe σ [j] := by intro x; rfl) : LcAt (Itl K a) (gName j) tt te [j] σ D H1 Qd :=
  lcV_list p (fun z => V.int (f z)) src hlen nD ht he (fun G s h => fin G s (by rw [mapI]; exact h)) hw
theorem lcI_tup (p : Int → Bool) (f : Int → Int) (src : SqT K H1 a (zs.map V.int)) (hlen : zs.length ≤ 1000) (nD : H1 D = none)
    (ht : ∀ z ∈ zs, ∀ G, Same H1 G → ∀ R : Bool → Hp → Prop, (∀ G2, Same G G2 → R (p z) G2) → tt ((wipe σ [j]).set j (some (.int z))) G R)
    (he : ∀ z ∈ zs, p z = true → ∀ G, Same H1 G → ∀ R : VK, (∀ G2, Same G G2 → R (.int (f z)) G2) → te ((wipe σ [j]).set j (some (.int z))) G R)
    (fin : ∀ G, Same H1 G → G D = some (.lst (((zs.filter p).map f).map V.int)) → Qd G) (hw : ∀ x, wipe ((wipe σ [j]).set j (some x)) [j] = wipe σ [j] := by intro x; rfl) : LcAt (Itt K a) (gName j) tt te [j] σ D H1 Qd :=
  lcV_tup p (fun z => V.int (f z)) src hlen nD ht he (fun G s h => fin G s (by rw [mapI]; exact h)) hw
/-- the ints from 0 on, below n -/
def upTo (n : Nat) : List Int := (List.range n).map fun (i : Nat) => (i : Int)
theorem upTo_get {n i : Nat} (h : i < n) : (upTo n)[i]? = some (i : Int) := by
  unfold upTo
  rw [List.getElem?_map, List.getElem?_range h]
  rfl
theorem upTo_len (n : Nat) : (upTo n).length = n := by
  unfold upTo
  rw [List.length_map, List.length_range]
theorem upTo_mem {n : Nat} {z : Int} : z ∈ upTo n ↔ 0 ≤ z ∧ z < n := by
  unfold upTo
  rw [List.mem_map]
  constructor
  · rintro ⟨i, hi, rfl⟩
    have := List.mem_range.mp hi
    omega
  · rintro ⟨h0, h1⟩
    exact ⟨z.toNat, List.mem_range.mpr (by omega), by omega⟩
theorem lcV_range {n : Nat} (p : Int → Bool) (f : Int → V) (hlen : n ≤ 1000) (nD : H1 D = none)
    (ht : ∀ z ∈ upTo n, ∀ G, Same H1 G → ∀ R : Bool → Hp → Prop, (∀ G2, Same G G2 → R (p z) G2) → tt ((wipe σ [j]).set j (some (.int z))) G R)
    (he : ∀ z ∈ upTo n, p z = true → ∀ G, Same H1 G → ∀ R : VK, (∀ G2, Same G G2 → R (f z) G2) → te ((wipe σ [j]).set j (some (.int z))) G R)
    (fin : ∀ G, Same H1 G → G D = some (.lst (((upTo n).filter p).map f)) → Qd G) (hw : ∀ x, wipe ((wipe σ [j]).set j (some x)) [j] = wipe σ [j] := by intro x; rfl) : LcAt (Itr 0 n) (gName j) tt te [j] σ D H1 Qd := by
  refine lc_range (lo := 0) (n := n) (fun i G => Same H1 G ∧ G D = some (.lst ((((upTo n).take i).filter p).map f))) ⟨sameNew nD, upd_same⟩ (fun i G hi h => ?_) (fun G h => ?_)
  · have e : (0 : Int) + (i : Nat) = (i : Nat) := Int.zero_add _
    rw [e]
    exact ⟨hw _, turnV p f (by rw [upTo_len]; exact hlen) nD ht he (upTo_get hi) h.1 h.2⟩
  · have e := h.2
    rw [List.take_of_length_le (by rw [upTo_len]; exact Nat.le_refl _)] at e
    exact fin G h.1 e
end
end Kv
/-! lists of ints without repeats; what is come to by links -/
namespace Kv
open PySem PySem.Spec PyProof.Rows L2
theorem nodupLe : ∀ {xs ys : List Int}, xs.Nodup → (∀ k ∈ xs, k ∈ ys) → xs.length ≤ ys.length
  | [], ys, _, _ => Nat.zero_le _
  | x :: xs, ys, hx, h => by
    obtain ⟨n1, n2⟩ := List.nodup_cons.mp hx
    have mx : x ∈ ys := h x List.mem_cons_self
    have ih := nodupLe (xs := xs) (ys := ys.erase x) n2 fun k hk => (List.mem_erase_of_ne (fun (e : k = x) => n1 (by rw [← e]; exact hk))).mpr (h k (List.mem_cons_of_mem _ hk))
    have pos : 0 < ys.length := List.length_pos_of_mem mx
    rw [List.length_erase_of_mem mx] at ih
    rw [List.length_cons]
    omega
/-- all of a list that is as long are all there are -/
theorem nodupAll {xs ys : List Int} (hx : xs.Nodup) (h : ∀ k ∈ xs, k ∈ ys) (hl : ys.length ≤ xs.length) : ∀ k ∈ ys, k ∈ xs := fun k hk => by
  by_cases hm : k ∈ xs
  · exact hm
  · have h2 := nodupLe (xs := k :: xs) (ys := ys) (List.nodup_cons.mpr ⟨hm, hx⟩) fun z hz => by
      rcases List.mem_cons.mp hz with e | e
      · rw [e]
        exact hk
      · exact h z e
    rw [List.length_cons] at h2
    omega
theorem nodupOfAll {xs ys : List Int} (hx : xs.Nodup) (h : ∀ k ∈ xs, k ∈ ys) (hl : ys.length ≤ xs.length) : ys.Nodup := by
  induction ys generalizing xs with
  | nil => exact List.nodup_nil
  | cons y ys ih =>
    have all := nodupAll hx h hl
    have my : y ∈ xs := all y List.mem_cons_self
    have hl2 : ys.length ≤ (xs.erase y).length := by
      rw [List.length_erase_of_mem my]
      rw [List.length_cons] at hl
      omega
    have sub : ∀ k ∈ xs.erase y, k ∈ ys := fun k hk => by
      have h2 := (hx.mem_erase_iff).mp hk
      rcases List.mem_cons.mp (h k h2.2) with e | e
      · exact (h2.1 e).elim
      · exact e
    refine List.nodup_cons.mpr ⟨fun hy => ?_, ih (hx.erase y) sub hl2⟩
    have h3 := nodupAll (hx.erase y) sub hl2 y hy
    exact ((hx.mem_erase_iff).mp h3).1 rfl
theorem exNodup : ∀ xs : List Int, ∃ ys : List Int, ys.Nodup ∧ ∀ k, k ∈ ys ↔ k ∈ xs
  | [] => ⟨[], List.nodup_nil, fun k => Iff.rfl⟩
  | x :: xs => by
    obtain ⟨ys, nd, h⟩ := exNodup xs
    by_cases hx : x ∈ xs
    · refine ⟨ys, nd, fun k => ?_⟩
      rw [h k, List.mem_cons]
      exact ⟨Or.inr, fun z => z.elim (fun e => e ▸ hx) id⟩
    · refine ⟨x :: ys, List.nodup_cons.mpr ⟨fun z => hx ((h x).mp z), nd⟩, fun k => ?_⟩
      rw [List.mem_cons, List.mem_cons, h k]
theorem inRange {xs : List Int} {m : Int} (hx : xs.Nodup) (h : ∀ k ∈ xs, 0 ≤ k ∧ k < m) : xs.length ≤ m.toNat := by
  have h2 := nodupLe (ys := upTo m.toNat) hx fun k hk => upTo_mem.mpr ⟨(h k hk).1, by have := (h k hk).2; have := (h k hk).1; omega⟩
  rw [upTo_len] at h2
  exact h2
/-- two sorted lists that hold the same, each once, are one -/
theorem sortedEq : ∀ {xs ys : List Int}, xs.Pairwise (· < ·) → ys.Pairwise (· < ·) → (∀ k, k ∈ xs ↔ k ∈ ys) → xs = ys
  | [], [], _, _, _ => rfl
  | [], y :: ys, _, _, h => nomatch (h y).mpr List.mem_cons_self
  | x :: xs, [], _, _, h => nomatch (h x).mp List.mem_cons_self
  | x :: xs, y :: ys, hx, hy, h => by
    obtain ⟨x1, x2⟩ := List.pairwise_cons.mp hx
    obtain ⟨y1, y2⟩ := List.pairwise_cons.mp hy
    have e : x = y := by
      rcases List.mem_cons.mp ((h x).mp List.mem_cons_self) with e | e
      · exact e
      · rcases List.mem_cons.mp ((h y).mpr List.mem_cons_self) with e2 | e2
        · exact e2.symm
        · have a := y1 x e
          have b := x1 y e2
          omega
    subst e
    congr 1
    refine sortedEq x2 y2 fun k => ⟨fun hk => ?_, fun hk => ?_⟩
    · rcases List.mem_cons.mp ((h k).mp (List.mem_cons_of_mem _ hk)) with e | e
      · have := x1 k hk
        omega
      · exact e
    · rcases List.mem_cons.mp ((h k).mpr (List.mem_cons_of_mem _ hk)) with e | e
      · have := y1 k hk
        omega
      · exact e
section
variable {st en : Int → Int} {bs zs : List Int}
/-- come to from the places bs by the links zs -/
inductive Reach (st en : Int → Int) (bs zs : List Int) : Int → Prop
  | base {b : Int} (h : b ∈ bs) : Reach st en bs zs b
  | step {z : Int} (h : Reach st en bs zs (st z)) (hz : z ∈ zs) : Reach st en bs zs (en z)
/-- all that are come to, each once -/
structure AllHeard (st en : Int → Int) (bs zs hs : List Int) : Prop where
  nd : hs.Nodup
  sub : ∀ b ∈ bs, b ∈ hs
  cl : ∀ z ∈ zs, st z ∈ hs → en z ∈ hs
  rc : ∀ h ∈ hs, Reach st en bs zs h
theorem AllHeard.mem {hs : List Int} (h : AllHeard st en bs zs hs) {k : Int} : k ∈ hs ↔ Reach st en bs zs k :=
  ⟨h.rc k, fun r => by
    induction r with
    | base hb => exact h.sub _ hb
    | step _ hz ih => exact h.cl _ hz ih⟩
/-- amid the walk: hs heard, ws waiting -/
structure Walking (st en : Int → Int) (bs zs : List Int) (m : Int) (hs ws : List Int) : Prop where
  nd : hs.Nodup
  sub : ∀ b ∈ bs, b ∈ hs
  wsub : ∀ b ∈ ws, b ∈ hs
  rc : ∀ h ∈ hs, Reach st en bs zs h
  rng : ∀ h ∈ hs, 0 ≤ h ∧ h < m
  cl : ∀ z ∈ zs, st z ∈ hs → st z ∈ ws ∨ en z ∈ hs
/-- amid one place's turn: y was taken, the first of zs are done -/
structure Turning (st en : Int → Int) (bs zs : List Int) (m : Int) (y : Int) (hs ws dn : List Int) : Prop where
  nd : hs.Nodup
  sub : ∀ b ∈ bs, b ∈ hs
  wsub : ∀ b ∈ ws, b ∈ hs
  ym : y ∈ hs
  rc : ∀ h ∈ hs, Reach st en bs zs h
  rng : ∀ h ∈ hs, 0 ≤ h ∧ h < m
  cl : ∀ z ∈ zs, st z ∈ hs → st z ∈ ws ∨ (en z ∈ hs ∨ st z = y)
  dn : ∀ z ∈ dn, st z = y → en z ∈ hs
variable {m y : Int} {hs ws dn : List Int}
theorem Walking.start (nd : bs.Nodup) (rng : ∀ b ∈ bs, 0 ≤ b ∧ b < m) : Walking st en bs zs m bs bs := ⟨nd, fun b h => h, fun b h => h, fun h hh => .base hh, rng, fun z _ h => Or.inl h⟩
theorem Walking.done (h : Walking st en bs zs m hs []) : AllHeard st en bs zs hs := ⟨h.nd, h.sub, fun z hz hs => (h.cl z hz hs).elim (fun e => nomatch e) id, h.rc⟩
theorem Walking.take (h : Walking st en bs zs m hs (ws ++ [y])) : Turning st en bs zs m y hs ws [] :=
  ⟨h.nd, h.sub, fun b hb => h.wsub b (List.mem_append_left _ hb), h.wsub y (List.mem_append_right _ List.mem_cons_self), h.rc, h.rng, fun z hz hs => by
    rcases h.cl z hz hs with e | e
    · rcases List.mem_append.mp e with e | e
      · exact Or.inl e
      · exact Or.inr (Or.inr (List.mem_singleton.mp e))
    · exact Or.inr (Or.inl e), fun z hz => nomatch hz⟩
theorem Turning.fin (h : Turning st en bs zs m y hs ws zs) : Walking st en bs zs m hs ws := ⟨h.nd, h.sub, h.wsub, h.rc, h.rng, fun z hz hs => by
    rcases h.cl z hz hs with e | e | e
    · exact Or.inl e
    · exact Or.inr e
    · exact Or.inr (h.dn z hz e)⟩
theorem Turning.skip {z : Int} (h : Turning st en bs zs m y hs ws dn) (hno : st z = y → en z ∈ hs) : Turning st en bs zs m y hs ws (dn ++ [z]) :=
  ⟨h.nd, h.sub, h.wsub, h.ym, h.rc, h.rng, h.cl, fun k hk e => by
    rcases List.mem_append.mp hk with q | q
    · exact h.dn k q e
    · rw [List.mem_singleton.mp q] at e ⊢
      exact hno e⟩
theorem Turning.put {z : Int} (h : Turning st en bs zs m y hs ws dn) (hz : z ∈ zs) (e : st z = y) (hn : en z ∉ hs) (hr : 0 ≤ en z ∧ en z < m) : Turning st en bs zs m y (hs ++ [en z]) (ws ++ [en z]) (dn ++ [z]) where
  nd := List.nodup_append.mpr ⟨h.nd, by simp, fun a ha b hb e2 => by
    rw [List.mem_singleton.mp hb] at e2
    rw [e2] at ha
    exact hn ha⟩
  sub := fun b hb => List.mem_append_left _ (h.sub b hb)
  wsub := fun b hb => by
    rcases List.mem_append.mp hb with q | q
    · exact List.mem_append_left _ (h.wsub b q)
    · exact List.mem_append_right _ q
  ym := List.mem_append_left _ h.ym
  rc := fun k hk => by
    rcases List.mem_append.mp hk with q | q
    · exact h.rc k q
    · rw [List.mem_singleton.mp q]
      exact .step (by rw [e]; exact h.rc y h.ym) hz
  rng := fun k hk => by
    rcases List.mem_append.mp hk with q | q
    · exact h.rng k q
    · rw [List.mem_singleton.mp q]
      exact hr
  cl := fun k hk hs2 => by
    rcases List.mem_append.mp hs2 with q | q
    · rcases h.cl k hk q with q | q | q
      · exact Or.inl (List.mem_append_left _ q)
      · exact Or.inr (Or.inl (List.mem_append_left _ q))
      · exact Or.inr (Or.inr q)
    · exact Or.inl (List.mem_append_right _ q)
  dn := fun k hk e2 => by
    rcases List.mem_append.mp hk with q | q
    · exact List.mem_append_left _ (h.dn k q e2)
    · rw [List.mem_singleton.mp q]
      exact List.mem_append_right _ List.mem_cons_self
end
end Kv
namespace Kv
open PySem PySem.Spec PyProof.Rows L2

/-! ### a new error as a value -/
section
variable {X : Cx} {C : Addr} {x : Str} {p pos : Pos} {e o : Expr} {es : List Expr} {ta : TA} {te : TE}
/-- X(), a class without an __init__ of its own -/
def tExc0 (C : Addr) : TE := fun σ H Q => ∀ a, H a = none → Q (.ref a) (upd H a (ExO (.ref C) a))
theorem pe_exc0 {bm : List Value} {B newId initId : String} (F : ExcBaseFacts B newId initId bm) (q : PySem.W.excIn X.K C bm newId = true) (gC : X.mg x = some (.ref C)) (kC : PySem.W.keepIn X.K (.ref C) = true) (hg : Gl X x)
    (hdb : (x == ("__debug__" : Str)) = false := by decide) : PE X (.Call (.Name x p) [] [] pos) (tExc0 C) := by
  refine ⟨fun pins s σ H Q I h => wpAny_Call_Name_kw (ld_glob I hg gC ?_ hdb)⟩
  refine PySem.W.callWith_K0 (first := []) I.kIn kC ?_
  show wpAny _ _ (call (.ref C) []) _ _ _
  obtain ⟨bm', N, nm, qn, bs, hdct, sn, sub, ab, col, d, k0, k1, k2, k3, k5, mN, hC, hN, hni, T⟩ := exc_obj I.kIn q
  refine wpAny_call_exc_subT F T hC hN hni (fun h2 a hm => ?_) (Nat.zero_le _)
  have free : H a = none := I.hok.gone hm.new
  obtain ⟨t, ht, _, _⟩ := hm.there
  exact ⟨.ref a, _, I.laidN hm.keeps hm.new free (exO_ok ht ⟨rfl, rfl⟩ rfl rfl rfl (show 4 < 6 by decide)), rfl, h a free⟩

/-- X(e, ..), a class with an __init__ of its own that keeps sp -/
def tExcI (C : Addr) (sp : Sp) (ta : TA) : TE := fun σ H Q => ta σ H fun vs H1 => vs.length ≤ 1000 ∧ ∀ a, H1 a = none → sp (.ref a :: vs) (upd H1 a (exo a C none)) (fun v H2 => v = .non ∧ Q (.ref a) H2) E0
theorem pe_excI {fI : Addr} {k : Nat} {fd : FuncData} {ps : List Str} {sp : Sp} (T : OexC X.K C) (iC : PySem.W.findIn X.K (.ref C) "__init__" = some (some (.ref fI))) (tI : PySem.W.typeIn X.K (.ref fI) = some (.type "function"))
    (F1 : FnOk X.prog X.w X.K X.mg X.base CX0 k fI fd ps sp) (hr : Room (k + 1) X.A) (hb : Binds X.K fd ps []) (hg : Gl X x) (hm : X.mg x = some (.ref C)) (ha : PA X (e :: es) ta)
    (hdb : (x == ("__debug__" : Str)) = false := by decide) (he : starEach (e :: es) X.env = (false, eval e X.env) :: starEach es X.env := by rfl) (hpl : (backTo pos (starEach es X.env)).any (·.1) = false := by rfl) :
    PE X (.Call (.Name x p) (e :: es) [] pos) (tExcI C sp ta) := by
  refine ⟨fun pins s σ H Q I h => wpAny_Call_Name_kw (ld_glob I hg hm ?_ hdb)⟩
  obtain ⟨nm, q, N, bs, bm, sn, sub, ab, col, d0, k0, k1, k2, k3, k5, hC, hbm⟩ := T.cls
  refine PySem.W.callWith_K (h₀ := X.base) I.ok.mod.kin T.kC (thn (ha.run pos pins s σ H _ I h) fun us z hz => ?_) he hpl
  obtain ⟨vs, H1, I1, rv, hlen, hq⟩ := hz
  refine ⟨I1.kIn, ?_⟩
  show wpAny _ _ (call (.ref C) us) _ _ _
  obtain ⟨hp, g, dr, tk, os⟩ := z
  have big : hp.objs.size ≤ hp.objs.size + 1 := Nat.le_succ _
  have want := hq (hp.objs.size + 1) (I1.hok.fresh big)
  have keep : ∀ b u, hp.get? b = some u → ((hp.push (PySem.W.kdv_tup us)).push (PySem.HandSPX.excO C hp.objs.size)).get? b = some u := fun b u y => Heap.get?_push_of_some _ (Heap.get?_push_of_some _ y)
  have there : ((hp.push (PySem.W.kdv_tup us)).push (PySem.HandSPX.excO C hp.objs.size)).get? (hp.objs.size + 1) = some (PySem.HandSPX.excO C hp.objs.size) := by heap_get
  have I2 : Inv X pins σ (upd H1 (hp.objs.size + 1) (exo (hp.objs.size + 1) C none)) ⟨(hp.push (PySem.W.kdv_tup us)).push (PySem.HandSPX.excO C hp.objs.size), g, dr, tk, os⟩ := I1.laid (t' := tk) keep big (exo_ok there)
  have rel : Vals (V.ref (hp.objs.size + 1) :: vs) (Value.ref (hp.objs.size + 1) :: us) := .cons rfl rv
  have cnt : ((Value.ref (hp.objs.size + 1) :: us) ++ []).length = ps.length := by
    rw [List.append_nil, ← rel.length]
    exact F1.len _ _ _ _ want
  have usz : us.length ≤ sizeLine := by
    rw [← rv.length, sizeLine_eq]
    omega
  have bd := hb ⟨(hp.push (PySem.W.kdv_tup us)).push (PySem.HandSPX.excO C hp.objs.size), g, dr, tk, os⟩ (Value.ref (hp.objs.size + 1) :: us) I2.kIn cnt
  rw [List.append_nil] at bd
  refine wpAny_call (PySem.HandSPX.call_own F.excBase_ValueError (fun Y => PySem.HandSPX.refsVE_contains Y bm hbm) (I1.kIn _ _ hC) (PySem.W.looks_findIn I1.kIn iC) (fun self => PySem.W.bind_fn I1.kIn self tI) usz
    (codeAny_mono (F1.run _ X.stack _ _ ⟨Value.ref (hp.objs.size + 1) :: us, []⟩ _ _ _ E0 (hr.make C us []) (I2.env0.make C us []) bd rel want) fun r s2 y => ?_))
  rcases r with er | (_ | _ | _ | u)
  · exact y.elim
  · exact y.elim
  · exact y.elim
  · exact y.elim
  · obtain ⟨v, H2, I3, rv2, ev, q3⟩ := I2.after y
    cases ev
    exact ⟨rv2, .ref (hp.objs.size + 1), H2, I3, rfl, q3⟩

/-- an error at a, of the class at C -/
def IsErr (H : Hp) (a C : Addr) : Prop := H a = some (ExO (.ref C) a) ∨ ∃ d fs, H a = some (exo a C (some d)) ∧ H d = some (exd d fs)
theorem IsErr.keep {H H2 : Hp} {a C : Addr} (k : Same H H2) (h : IsErr H a C) : IsErr H2 a C := by
  rcases h with h | ⟨d, fs, h1, h2⟩
  · exact Or.inl (k _ _ h)
  · exact Or.inr ⟨d, fs, k _ _ h1, k _ _ h2⟩
/-- e.f of such an error -/
def tErrF (K : PySem.W.Frag) (f : Str) (te : TE) : TE := fun σ H Q => te σ H fun x H1 => ∃ a C d fs v, x = .ref a ∧ H1 a = some (exo a C (some d)) ∧ H1 d = some (exd d fs) ∧ XfC K C ∧ PySem.W.findIn K (.ref C) f = some none ∧ fs.lookup f = some v ∧ Q v H1
theorem pe_errF {n : Str} (he : PE X e te) (hb : attributeBase e n X.env (eval e X.env) = eval e X.env := by rfl) : PE X (.Attribute e n pos) (tErrF X.K n te) := by
  refine ⟨fun pins s σ H Q I h => attr_of hb (thn (he.run pins s σ H _ I h) fun u z y => ?_)⟩
  obtain ⟨v0, H1, I1, rx, a, C, d, fs, v, rfl, ea, ed, T, hno, hl, q⟩ := y
  cases rx
  obtain ⟨t1, ho⟩ := exo_at I1.hok ea
  obtain ⟨mA, hns, rl⟩ := exd_at I1.hok ed
  obtain ⟨od, hod, look⟩ := lookIn_ns hns
  obtain ⟨u, hu, ru⟩ := RelO.some_of (v := v) (o := mA n) (by rw [← hl]; exact rl n)
  have J : PySem.W.InstAt z.heap a _ C (some od) := ⟨ho, rfl, rfl, hod⟩
  exact HandSPX.exc_get I1.kIn J T.ga T.gg T.exC (PySem.W.findObj_own T.hdC hno rfl (by rw [look, hu])) (handed_of ru) ⟨v, H1, I1.tok _, ru, q⟩

/-- what isinstance asks of an error's class -/
def errB (K : PySem.W.Frag) (D : Addr) : Bool := xfB K D && ((PySem.W.clsIn K D).isSome && (decide (PySem.W.findIn K (.ref D) "__class__" = some (some (.builtin "object.__class__"))) && (decide (PySem.W.specialIn K (.builtin "object.__class__") "__get__" = some (some (.builtin "getset_descriptor.__get__"))) &&
  (decide (PySem.W.takesIn K (.builtin "object.__class__") = some true) && decide (PySem.W.mroIn K D (.type "object") = some true)))))
theorem kit_err {K : PySem.W.Frag} {D a : Addr} {ox : Obj} {od : Option Obj} (h : errB K D = true) : PySem.W.KitX K (.ref a) (.ref D) (fun h => PySem.W.InstAt h a ox D od) := by
  unfold errB at h
  simp only [Bool.and_eq_true, decide_eq_true_eq] at h
  obtain ⟨h1, h2, h3, h4, h5, h6⟩ := h
  have T := xfB_ok h1
  exact PySem.W.kitx_exc h2 T.ga T.gg T.exC h3 h4 h5 h6
/-- isinstance(e, c) of an error -/
def rIsErr (K : PySem.W.Frag) : List V → Hp → VK → Prop := fun xs H Q => ∃ (a D : Addr) (c : V) (cv : Value) (b : Bool), xs = [.ref a, c] ∧ (∀ u, RelV c u → u = cv) ∧ IsErr H a D ∧ errB K D = true ∧ PySem.W.kitOne K (.ref D) cv = some b ∧ Q (.bl b) H
theorem call_isErr : CallR X (.builtin "isinstance") (rIsErr X.K) := by
  intro pins s σ H xs us Q I r h
  obtain ⟨a, D, c, cv, b, rfl, hcv, he, hB, hk, q⟩ := h
  obtain ⟨u, v, rfl, ru, rc⟩ := r.two
  cases ru
  cases hcv v rc
  rcases he with he | ⟨d, fs, he, hd⟩
  · obtain ⟨⟨oe, vs, ho, hz, hdat, _⟩, _, _⟩ := I.hok a _ he
    have J : PySem.W.InstAt s.heap a oe D none := by
      obtain ⟨oc, od, oda, osl⟩ := oe
      obtain ⟨z1, z2⟩ := hz
      dsimp only at z1 z2 hdat
      cases z1
      cases z2
      cases hdat
      exact ⟨ho, rfl, rfl, trivial⟩
    exact PySem.W.kia_one (kit_err hB) I.kIn J hk (fun y => nomatch y) fun tk => ⟨.bl b, H, I.kept (t' := tk) fun _ _ y => y, rfl, q⟩
  · obtain ⟨t1, ho⟩ := exo_at I.hok he
    obtain ⟨mA, ⟨od, es, ep, hod, _⟩, _⟩ := exd_at I.hok hd
    have J : PySem.W.InstAt s.heap a _ D (some od) := ⟨ho, rfl, rfl, hod⟩
    exact PySem.W.kia_one (kit_err hB) I.kIn J hk (fun y => nomatch y) fun tk => ⟨.bl b, H, I.kept (t' := tk) fun _ _ y => y, rfl, q⟩

/-- xs.count(y), flat items -/
def rCntF (K : PySem.W.Frag) : V → List V → Hp → VK → Prop := fun x xs H Q => ∃ (p : Addr) (ys : List V) (y : V), x = .ref p ∧ xs = [y] ∧ SqL K H p ys ∧ flatV y = true ∧ ys.all flatV = true ∧ Q (.int (ys.countP (fun z => eqV z y) : Nat)) H
theorem cnt_eqU {x : V} : ∀ {xs : List V} {us : List Value}, Vals xs us → xs.all flatV = true → us.countP (eqU x) = xs.countP fun y => eqV y x
  | _, _, .nil, _ => rfl
  | y :: xs, u :: us, .cons r t, f => by
    rw [List.all_cons, Bool.and_eq_true] at f
    rw [List.countP_cons, List.countP_cons, cnt_eqU t f.2, eqU_of r f.1]
theorem mt_countF : MtR X "list.count" (rCntF X.K) := by
  intro pins s σ H x xs v us Q I rx rxs h
  obtain ⟨p, ys, y, rfl, rfl, hs, fy, fs, q⟩ := h
  cases rx
  obtain ⟨u, rfl, ru⟩ := rxs.one
  obtain ⟨its, rv, ⟨⟨cl, od, dt, sl⟩, n, ho, hc, hdn, hd⟩, hlen⟩ := I.list hs
  dsimp only at hc hd
  cases hc
  cases hd
  refine call_meets PySem.F.slot_list_count ⟨_, ho, rfl⟩ PySem.F.entry_list_count (PySem.F.args_list_count_2 _ _) (SeqAt.list_countAt p its.toArray n od sl u (eqU y)) ⟨ho, fun w hw => mem_eqAt ru fy rv fs w (by simpa using hw), ?_⟩
  refine ⟨.int (ys.countP (fun z => eqV z y) : Nat), H, I.tok _, ⟨s.toks, ?_⟩, q⟩
  have e : its.toArray.toList.countP (eqU y) = ys.countP (fun z => eqV z y) := cnt_eqU rv fs
  rw [e]
end
end Kv
namespace Kv
open PySem PySem.Spec PyProof.Rows L2

/-- the text of data -/
def Shows (K : PySem.W.Frag) (H : Hp) (x : V) (z : Str) : Prop :=
  (∃ d, Dp K H x d ∧ d.hasDict = false ∧ d.showable = true ∧ d.depth ≤ 60 ∧ d.shown.length ≤ sizeLine ∧ z = d.shown) ∨ ∃ a kvs, x = .ref a ∧ H a = some (.dK (kvI kvs)) ∧ (PyData.dict (kvD kvs)).showable = true ∧ (PyData.dict (kvD kvs)).shown.length ≤ sizeLine ∧ z = (PyData.dict (kvD kvs)).shown
theorem kv_reads {P : Program} {w : World} {h : Heap} : ∀ {kvs : List (Int × Int)} {vs : List (Key × Value)} {es : List DictEntry}, KV (kvI kvs) vs → Pairs (mixKind P w) es vs →
    ReadsAll h (es.map (·.key)) ((kvD kvs).map (·.1)) [] ∧ ReadsAll h (es.map (·.val)) ((kvD kvs).map (·.2)) []
  | [], _, _, kv, pr => by
    cases kv
    cases pr
    exact ⟨.nil, .nil⟩
  | p :: kvs, _, _, kv, pr => by
    cases kv with
    | cons hv kv =>
    cases pr with
    | cons hk he pr =>
    obtain ⟨a1, a2⟩ := kv_reads kv pr
    obtain ⟨e0, hv⟩ := hv
    rcases keyIs_shape hk with ⟨i, t, e1, e2⟩ | ⟨x, t, e1, e2⟩
    · have ei : i = p.1 := (Sum.inl.inj (e0.trans e1)).symm
      subst ei
      obtain ⟨t2, e3⟩ := hv
      refine ⟨?_, ?_⟩
      · rw [List.map_cons, e2]
        exact ReadsAll.cons (as := []) (bs := []) (Reads.int _ _) a1
      · rw [List.map_cons, he, e3]
        exact ReadsAll.cons (as := []) (bs := []) (Reads.int _ _) a2
    · cases e0.trans e1
theorem kvD_depth (kvs : List (Int × Int)) : (PyData.dict (kvD kvs)).depth ≤ 60 := by
  have h : ∀ l : List (Int × Int), PyData.depthKv (kvD l) = 0 := fun l => by
    induction l with
    | nil => rfl
    | cons p l ih =>
      show max (max (PyData.depth (.int p.1)) (PyData.depth (.int p.2))) (PyData.depthKv (kvD l)) = 0
      rw [ih]
      rfl
  show PyData.depthKv (kvD kvs) + 1 ≤ 60
  rw [h]
  decide
/-- repr(x) -/
def rRepr (K : PySem.W.Frag) : List V → Hp → VK → Prop := fun xs H Q => ∃ x z, xs = [x] ∧ Shows K H x z ∧ Q (.str z) H
theorem call_reprD {X : Cx} (hg : X.A.guards = some []) (hu : X.A.units + 100 < cLine) : CallR X (.builtin "repr") (rRepr X.K) := by
  intro pins s σ H xs us Q I r h
  obtain ⟨x, z, rfl, hz, q⟩ := h
  obtain ⟨u, rfl, ru⟩ := r.one
  have fin : ∀ tk t, EP X pins σ Q (.str z t) { s with toks := tk } := fun tk t => ⟨.str z, H, I.tok _, ⟨t, rfl⟩, q⟩
  have byRef : ∀ {a : Addr} {d : PyData} {as : List Addr}, Reads s.heap (.ref a) d as → d.showable = true → (d.hasDict = true → sysModules ∉ as) → d.depth ≤ 60 → d.shown.length ≤ sizeLine → z = d.shown →
      wpAny (model X.prog X.w) X.A (call (.builtin "repr") [.ref a]) (EP X pins σ Q) X.xe s := fun {a d as} rd hs hm hdep hl ez =>
    repr_of_reads' rd hs hm hg (by omega) (fun _ _ e => e) (fun h' t tk hk => ⟨.str d.shown, H, I.kept (t' := tk) hk, ⟨t, rfl⟩, by rw [← ez]; exact q⟩) hl
  rcases hz with ⟨d, hd, hn, hs, hdep, hl, ez⟩ | ⟨a, kvs, rfl, ha, hsh, hln, ez⟩
  · obtain ⟨as, rd⟩ := Dp.reads I d x u hd ru
    cases hd with
    | non =>
      cases ru
      cases ez
      exact PySem.P.repr_of_none (fin _ _)
    | bl b =>
      cases ru
      cases ez
      have e : (PyData.bool b).shown = (if b then "True" else "False" : Str) := PyData.shown_bool b
      exact PySem.P.repr_of_bool (by rw [← e]; exact fin _ _)
    | int i =>
      obtain ⟨t, rfl⟩ := ru
      cases ez
      exact PySem.P.repr_of_int (of_decide_eq_true hs) (fin _ _)
    | str y =>
      obtain ⟨t, rfl⟩ := ru
      cases ez
      exact PySem.P.repr_of_str (fin _ _) hl
    | lst _ _ =>
      cases ru
      exact byRef rd hs (PyData.noDict_hsm hn) hdep hl ez
    | tup _ _ =>
      cases ru
      exact byRef rd hs (PyData.noDict_hsm hn) hdep hl ez
  · cases ru
    obtain ⟨_, hne, vs, kv, o, es, ep, ho, hx, hd, _, he, _⟩ := I.hok a _ ha
    obtain ⟨r1, r2⟩ := kv_reads (P := X.prog) (w := X.w) (h := s.heap) kv he
    have rd : Reads s.heap (.ref a) (.dict (kvD kvs)) (a :: [] ++ []) := Reads.dict ho hx.1 hd r1 r2
    refine byRef rd hsh (fun _ hm => ?_) (kvD_depth kvs) hln ez
    have ea : sysModules = a := List.mem_singleton.mp hm
    rw [← ea] at hne
    exact absurd hne (by decide)
end Kv
/-! the data of right nets -/
namespace Kv
open PySem PySem.Spec PyProof.Rows L2
section
variable {K : PySem.W.Frag} {H : Hp}
mutual
theorem Th.dp : ∀ {d : PyData} {x : V}, Th H x d → d.hasDict = false → Dp K H x d
  | .none, _, h, _ => by cases h; exact .non
  | .bool b, _, h, _ => by cases h; exact .bl b
  | .int i, _, h, _ => by cases h; exact .int i
  | .str x, _, h, _ => by cases h; exact .str x
  | .list ds, _, h, n => by
    cases h with
    | lst ha h => exact .lst (SqL.of ha) (ThAll.dp h (by simpa [PyData.hasDict] using n))
  | .tuple ds, _, h, n => by
    cases h with
    | tup ha h hl => exact .tup (SqT.of ha) (ThAll.dp h (by simpa [PyData.hasDict] using n))
  | .dict _, _, h, n => by simp [PyData.hasDict] at n
theorem ThAll.dp : ∀ {ds : List PyData} {vs : List V}, ThAll H vs ds → PyData.hasDictAll ds = false → DpAll K H vs ds
  | [], _, h, _ => by cases h; exact .nil
  | d :: ds, _, h, n => by
    cases h with
    | cons h1 h2 =>
      simp only [PyData.hasDictAll, Bool.or_eq_false_iff] at n
      exact .cons (Th.dp h1 n.1) (ThAll.dp h2 n.2)
end
end
/-- data without dicts, not deep, short, of small numbers -/
structure Neat (n w : Nat) (d : PyData) : Prop where
  nd : d.hasDict = false
  sh : d.showable = true
  cl : d.canLay0 = true
  dp : d.depth ≤ n
  wt : d.weight ≤ w
  lv : d.leavesShort 80 = true
theorem Neat.mono {n m w z : Nat} {d : PyData} (h : Neat n w d) (h1 : n ≤ m) (h2 : w ≤ z) : Neat m z d := ⟨h.nd, h.sh, h.cl, Nat.le_trans h.dp h1, Nat.le_trans h.wt h2, h.lv⟩
theorem small : ∀ n < 101, (PyData.showable (.int (n : Nat)) && (PyData.leavesShort 80 (.int (n : Nat)) && decide (PyData.weight (.int (n : Nat)) ≤ 20))) = true := by decide +kernel
theorem neatInt {i : Int} (h0 : 0 ≤ i) (h1 : i ≤ 100) : Neat 0 20 (.int i) := by
  have e : i = ((i.toNat : Nat) : Int) := by omega
  have h := small i.toNat (by omega)
  rw [← e, Bool.and_eq_true, Bool.and_eq_true, decide_eq_true_eq] at h
  exact ⟨rfl, h.1, rfl, Nat.le_refl _, h.2.2, h.2.1⟩
/-- all of a list -/
structure NeatAll (n w : Nat) (ds : List PyData) : Prop where
  nd : PyData.hasDictAll ds = false
  sh : PyData.showableAll ds = true
  cl : PyData.canLayAll0 ds = true
  dp : PyData.depthAll ds ≤ n
  wt : PyData.weightAll ds ≤ w
  lv : PyData.leavesShortAll 80 ds = true
theorem NeatAll.nil {n w : Nat} : NeatAll n w [] := ⟨rfl, rfl, rfl, Nat.zero_le _, Nat.zero_le _, rfl⟩
theorem NeatAll.cons {n w z : Nat} {d : PyData} {ds : List PyData} (h : Neat n w d) (t : NeatAll n z ds) : NeatAll n (w + 1 + z) (d :: ds) := by
  refine ⟨?_, ?_, ?_, ?_, ?_, ?_⟩
  · simp only [PyData.hasDictAll, h.nd, t.nd, Bool.or_false]
  · simp only [PyData.showableAll, h.sh, t.sh, Bool.and_true]
  · simp only [PyData.canLayAll0, h.cl, t.cl, Bool.and_true]
  · have := h.dp
    have := t.dp
    simp only [PyData.depthAll]
    omega
  · have := h.wt
    have := t.wt
    simp only [PyData.weightAll]
    omega
  · simp only [PyData.leavesShortAll, h.lv, t.lv, Bool.and_true]
theorem NeatAll.tup {n w : Nat} {ds : List PyData} (h : NeatAll n w ds) : Neat (n + 1) w (.tuple ds) := by
  refine ⟨?_, ?_, ?_, ?_, ?_, ?_⟩
  · simp only [PyData.hasDict, h.nd]
  · simp only [PyData.showable, h.sh]
  · simp only [PyData.canLay0, h.cl]
  · have := h.dp
    simp only [PyData.depth]
    omega
  · have := h.wt
    simp only [PyData.weight]
    omega
  · simp only [PyData.leavesShort, h.lv]
theorem Neat.shaped {n w : Nat} {d : PyData} (h : Neat n w d) (hn : n ≤ 60) : SeqAt.shaped d = true := by
  unfold SeqAt.shaped
  rw [h.cl, Bool.true_and]
  exact decide_eq_true (by have := h.dp; omega)
theorem Neat.shows {n w : Nat} {K : PySem.W.Frag} {H : Hp} {d : PyData} {v : V} (h : Neat n w d) (hn : n ≤ 60) (hw : w ≤ 100000) (hd : Th H v d) : Shows K H v d.shown :=
  Or.inl ⟨d, hd.dp h.nd, h.nd, h.sh, Nat.le_trans h.dp hn, by
    have h1 := PyData.shown_le 80 (by decide) d h.lv
    have h2 := h.wt
    rw [sizeLine_eq]
    omega, rfl⟩
theorem isPr_inv {d : PyData} {m : Int} (h : isPr d m = true) : ∃ i j, d = .tuple [.int i, .int j] ∧ 0 ≤ i ∧ i ≤ m - 1 ∧ 0 ≤ j ∧ j ≤ m - 1 := by
  unfold isPr at h
  split at h
  · rename_i a b
    rw [Bool.and_eq_true, Bool.and_eq_true] at h
    obtain ⟨i, rfl, i0, i1⟩ := isBt_int h.1
    obtain ⟨j, rfl, j0, j1⟩ := isBt_int h.2.1
    exact ⟨i, j, rfl, i0, i1, j0, j1⟩
  · cases h
theorem neatPr {d : PyData} {m : Int} (hm : m ≤ 10) (h : isPr d m = true) : Neat 1 42 d := by
  obtain ⟨i, j, rfl, i0, i1, j0, j1⟩ := isPr_inv h
  exact (NeatAll.cons (neatInt i0 (by omega)) (NeatAll.cons (neatInt j0 (by omega)) NeatAll.nil (w := 20) (z := 0))).tup
theorem neatPrs {m : Int} (hm : m ≤ 10) : ∀ {ds : List PyData}, (∀ d ∈ ds, isPr d m = true) → NeatAll 1 (43 * ds.length) ds
  | [], _ => NeatAll.nil
  | d :: ds, h => by
    have a := NeatAll.cons (neatPr hm (h d List.mem_cons_self)) (neatPrs hm fun e he => h e (List.mem_cons_of_mem _ he))
    have e : 42 + 1 + 43 * ds.length = 43 * (d :: ds).length := by rw [List.length_cons]; omega
    rw [e] at a
    exact a
theorem firstBad_none {m : Int} : ∀ {ds : List PyData} {i : Nat}, firstBad m ds i = none → ∀ d ∈ ds, isPr d m = true
  | [], _, _, d, hd => nomatch hd
  | e :: ds, i, h, d, hd => by
    unfold firstBad at h
    cases hp : isPr e m with
    | false =>
      rw [hp] at h
      cases h
    | true =>
      rw [hp] at h
      rcases List.mem_cons.mp hd with z | z
      · rw [z]; exact hp
      · exact firstBad_none (ds := ds) h d z
/-- the parts of a right net, as data -/
structure Right (m r : Int) (ds : List PyData) : Prop where
  m0 : 2 ≤ m
  m1 : m ≤ 10
  r0 : 0 ≤ r
  r1 : r < m
  len : ds.length ≤ 60
  pr : ∀ d ∈ ds, isPr d m = true
theorem wv_inv {dx dy dz : PyData} (h : wrongV dx dy dz = .non) : ∃ m r ds, dx = .int m ∧ dy = .int r ∧ dz = .tuple ds ∧ Right m r ds := by
  unfold wrongV at h
  split at h
  · rename_i h1
    obtain ⟨m, rfl, m0, m1⟩ := isBt_int h1
    dsimp only at h
    split at h
    · rename_i h2
      obtain ⟨r, rfl, r0, r1⟩ := isBt_int h2
      split at h
      · rename_i ds
        split at h
        · cases h
        · rename_i h3
          split at h
          · cases h
          · rename_i h4
            exact ⟨m, r, ds, rfl, rfl, rfl, m0, m1, r0, by omega, by omega, firstBad_none h4⟩
      · cases h
    · cases h
  · cases h
theorem firstBad_of {m : Int} : ∀ {ds : List PyData} {i : Nat}, (∀ d ∈ ds, isPr d m = true) → firstBad m ds i = none
  | [], _, _ => rfl
  | e :: ds, i, h => by
    unfold firstBad
    rw [if_pos (h e List.mem_cons_self)]
    exact firstBad_of fun d hd => h d (List.mem_cons_of_mem _ hd)
theorem Right.wv {m r : Int} {ds : List PyData} (h : Right m r ds) : wrongV (.int m) (.int r) (.tuple ds) = .non := by
  refine wv_none ?_ ?_ (by have := h.len; omega) (firstBad_of h.pr)
  · show (decide (2 ≤ m) && decide (m ≤ 10)) = true
    rw [decide_eq_true h.m0, decide_eq_true h.m1]
    rfl
  · show (decide (0 ≤ r) && decide (r ≤ m - 1)) = true
    rw [decide_eq_true h.r0, decide_eq_true (show r ≤ m - 1 by have := h.r1; omega)]
    rfl
theorem Right.neatL {m r : Int} {ds : List PyData} (h : Right m r ds) : Neat 2 2600 (.tuple ds) := ((neatPrs h.m1 h.pr).tup).mono (Nat.le_refl _) (by have := h.len; omega)
theorem Right.neat {m r : Int} {ds : List PyData} (h : Right m r ds) : Neat 3 2700 (.tuple [.int m, .int r, .tuple ds]) := by
  have a := neatInt (i := m) (by have := h.m0; omega) (by have := h.m1; omega)
  have b := neatInt (i := r) h.r0 (by have := h.m1; have := h.r1; omega)
  exact ((NeatAll.cons (a.mono (Nat.zero_le 2) (Nat.le_refl _)) (NeatAll.cons (b.mono (Nat.zero_le 2) (Nat.le_refl _)) (NeatAll.cons h.neatL NeatAll.nil (z := 0)))).tup).mono (Nat.le_refl _) (by decide)
mutual
theorem eqv_self : ∀ d : PyData, d.hasDict = false → PyData.eqv d d = true
  | .none, _ => rfl
  | .bool b, _ => by simp [PyData.eqv]
  | .int i, _ => by simp [PyData.eqv]
  | .str x, _ => by simp [PyData.eqv]
  | .list ds, h => by simpa [PyData.eqv] using eqvAll_self ds (by simpa [PyData.hasDict] using h)
  | .tuple ds, h => by simpa [PyData.eqv] using eqvAll_self ds (by simpa [PyData.hasDict] using h)
  | .dict _, h => by simp [PyData.hasDict] at h
theorem eqvAll_self : ∀ ds : List PyData, PyData.hasDictAll ds = false → PyData.eqvAll ds ds = true
  | [], _ => rfl
  | d :: ds, h => by
    simp only [PyData.hasDictAll, Bool.or_eq_false_iff] at h
    simp only [PyData.eqvAll, eqv_self d h.1, eqvAll_self ds h.2, Bool.and_true]
end
end Kv
namespace Kv
open PySem PySem.Spec PyProof.Rows L2
/-! ### readings that give just these things -/
def ThX (te : TE) (σ : L2.St) (H : Hp) (d : PyData) : Prop := ∀ H1, Same H H1 → ∀ Q : VK, (∀ v H2, Same H1 H2 → Th H2 v d → Q v H2) → te σ H1 Q
def ThXA (ta : TA) (σ : L2.St) (H : Hp) (ds : List PyData) : Prop := ∀ H1, Same H H1 → ∀ Q : List V → Hp → Prop, (∀ vs H2, Same H1 H2 → ThAll H2 vs ds → Q vs H2) → ta σ H1 Q
section
variable {σ : L2.St} {H : Hp} {te ta tb : TE} {tr : TA} {d : PyData} {ds : List PyData}
theorem ThX.non : ThX (tC .non) σ H .none := fun H1 _ Q k => k _ H1 (Same.refl _) .non
theorem ThX.bl {b : Bool} : ThX (tC (.bl b)) σ H (.bool b) := fun H1 _ Q k => k _ H1 (Same.refl _) (.bl b)
theorem ThX.int {i : Int} : ThX (tC (.int i)) σ H (.int i) := fun H1 _ Q k => k _ H1 (Same.refl _) (.int i)
theorem ThX.str {x : Str} : ThX (tC (.str x)) σ H (.str x) := fun H1 _ Q k => k _ H1 (Same.refl _) (.str x)
theorem ThX.neg {i : Int} : ThX (tUn (rU fun i => .int (-i)) (tC (.int i))) σ H (.int (-i)) := fun H1 _ Q k => ⟨i, rfl, k _ H1 (Same.refl _) (.int (-i))⟩
theorem ThX.pow {i j : Int} (h : CPow i j) : ThX (tOp (rI CPow fun i j => .int (i ^ j.toNat)) (tC (.int i)) (tC (.int j))) σ H (.int (i ^ j.toNat)) := fun H1 _ Q k => ⟨i, j, rfl, rfl, h, k _ H1 (Same.refl _) (.int _)⟩
theorem ThX.var {i : Nat} {v : V} (e : σ[i]? = some (some v)) (h : Th H v d) : ThX (tVar i) σ H d := fun H1 s Q k => ⟨v, e, k _ H1 (Same.refl _) (h.keep s)⟩
theorem ThX.dic : ThX tDNewK σ H (.dict []) := fun H1 _ Q k p np => k _ _ (newS np) (.dic (kvs := []) upd_same (Nat.zero_le _))
theorem ThX.dic1 {i j : Int} : ThX (tDisp [(tC (.int i), tC (.int j))]) σ H (.dict [(.int i, .int j)]) := fun H1 _ Q k p np =>
  ⟨upd_same, [(Sum.inl i, .int j)], rfl, by show (1 : Nat) ≤ 15; decide, by
    rw [upd_upd]
    exact k _ _ (newS np) (.dic (kvs := [(i, j)]) upd_same (by show (1 : Nat) ≤ 100; decide))⟩
theorem ThXA.nil : ThXA tNil σ H [] := fun H1 _ Q k => k [] H1 (Same.refl _) .nil
theorem ThXA.cons (h : ThX te σ H d) (t : ThXA tr σ H ds) : ThXA (tCons te tr) σ H (d :: ds) := fun H1 s Q k => h H1 s _ fun v H2 s2 hv => t H2 (s.trans s2) _ fun vs H3 s3 hs => k (v :: vs) H3 (s2.trans s3) (.cons (hv.keep s3) hs)
theorem ThX.tup (h : ThXA tr σ H ds) (hn : ds.length ≤ 100 := by decide) : ThX (tTup tr) σ H (.tuple ds) := fun H1 s Q k => h H1 s _ fun vs H2 s2 hs => ⟨by rw [hs.length]; exact Nat.le_trans hn (by decide), fun p np => k _ _ (s2.trans (newS np)) (.tup upd_same (hs.keep (newS np)) (by rw [hs.length]; exact hn))⟩
theorem ThX.lst (h : ThXA tr σ H ds) (hn : ds.length ≤ 1000 := by decide) : ThX (tLst tr) σ H (.list ds) := fun H1 s Q k => h H1 s _ fun vs H2 s2 hs => ⟨by rw [hs.length]; exact Nat.le_trans hn (by decide), fun p np => k _ _ (s2.trans (newS np)) (.lst upd_same (hs.keep (newS np)))⟩
/-- a new list of just these things -/
theorem lstX {Q : VK} (h : ThXA tr σ H ds) (hn : ds.length ≤ 1000) (k : ∀ p vs H2, H p = none → Same H H2 → H2 p = some (.lst vs) → ThAll H2 vs ds → Q (.ref p) H2) : tLst tr σ H Q :=
  h H (Same.refl _) _ fun vs H2 s2 hs => ⟨by rw [hs.length]; exact Nat.le_trans hn (by decide), fun p np => k p vs _ (s2.free np) (s2.trans (newS np)) upd_same (hs.keep (newS np))⟩
theorem tupX {Q : VK} (h : ThXA tr σ H ds) (hn : ds.length ≤ 1000) (k : ∀ p vs H2, H p = none → Same H H2 → H2 p = some (.tup vs) → ThAll H2 vs ds → Q (.ref p) H2) : tTup tr σ H Q :=
  h H (Same.refl _) _ fun vs H2 s2 hs => ⟨by rw [hs.length]; exact Nat.le_trans hn (by decide), fun p np => k p vs _ (s2.free np) (s2.trans (newS np)) upd_same (hs.keep (newS np))⟩
end
/-- len of a list or tuple -/
abbrev rLenQ (K : PySem.W.Frag) : List V → Hp → VK → Prop := fun xs H Q => ∃ p ys, xs = [.ref p] ∧ (SqL K H p ys ∨ SqT K H p ys) ∧ Q (.int ys.length) H
theorem tup1 {te : TE} {σ : L2.St} {H : Hp} {Q : VK} (h : te σ H fun v H1 => [v].length ≤ sizeLine ∧ ∀ p, H1 p = none → Q (.ref p) (upd H1 p (.tup [v]))) : tTup (tCons te tNil) σ H Q := h
theorem opL {r : R2} {ta tb : TE} {σ : L2.St} {H : Hp} {Q : VK} (h : ta σ H fun x H1 => tb σ H1 fun y H2 => r x y H2 Q) : tOp r ta tb σ H Q := h
/-! ### things that may be shown -/
/-- short and flat enough that repr of it is told -/
def okD (d : PyData) : Bool := !d.hasDict && (d.showable && (d.canLay0 && (decide (d.depth ≤ 40) && (decide (d.weight ≤ 100000) && d.leavesShort 80))))
/-- data of a dict of a few small ints, or okD -/
def okT (d : PyData) : Bool := okD d || match d with
  | .dict kvs => kvs.length ≤ 3 && d.showable && decide (d.shown.length ≤ 1000) && kvs.all fun p => match p with
    | (.int _, .int _) => true
    | _ => false
  | _ => false
theorem okD_neat {d : PyData} (h : okD d = true) : Neat 40 100000 d := by
  unfold okD at h
  simp only [Bool.and_eq_true, Bool.not_eq_true', decide_eq_true_eq] at h
  obtain ⟨h1, h2, h3, h4, h5, h6⟩ := h
  exact ⟨h1, h2, h3, h4, h5, h6⟩
theorem neat_okD {n w : Nat} {d : PyData} (h : Neat n w d) (hn : n ≤ 40) (hw : w ≤ 100000) : okD d = true := by
  unfold okD
  rw [h.nd, h.sh, h.cl, decide_eq_true (Nat.le_trans h.dp hn), decide_eq_true (Nat.le_trans h.wt hw), h.lv]
  rfl
theorem Th.shows {K : PySem.W.Frag} {H : Hp} {d : PyData} {v : V} (h : Th H v d) (ok : okT d = true) : Shows K H v d.shown := by
  rcases Bool.or_eq_true_iff.mp ok with h1 | h1
  · exact (okD_neat h1).shows (by decide) (by decide) h
  · cases h with
    | dic ha hl =>
      rename_i a kvs
      simp only [Bool.and_eq_true, decide_eq_true_eq] at h1
      exact Or.inr ⟨a, kvs, rfl, ha, h1.1.1.2, Nat.le_trans h1.1.2 (by decide), rfl⟩
    | _ => cases h1
end Kv
/-! repr of things with dicts of ints in tuples -/
namespace Kv
open PySem PySem.Spec PyProof.Rows L2
mutual
/-- no list; each dict of ints -/
def plainD : PyData → Bool
  | .none | .bool _ | .int _ | .str _ => true
  | .list _ => false
  | .tuple xs => plainAll xs
  | .dict _ => true
def plainAll : List PyData → Bool
  | [] => true
  | x :: xs => plainD x && plainAll xs
end
section
variable {X : Cx} {pins : List (Addr × Obj)} {σ : L2.St} {H : Hp} {s : Shared}
mutual
theorem Th.readsP (I : Inv X pins σ H s) : ∀ (d : PyData) (v : V) (u : Value), Th H v d → plainD d = true → RelV v u → ∃ as, Reads s.heap u d as ∧ sysModules ∉ as
  | .none, _, _, h, _, r => by
    cases h
    cases r
    exact ⟨_, Reads.none, by simp⟩
  | .bool b, _, _, h, _, r => by
    cases h
    cases r
    exact ⟨_, Reads.bool b, by simp⟩
  | .int i, _, _, h, _, r => by
    cases h
    obtain ⟨t, rfl⟩ := r
    exact ⟨_, Reads.int i t, by simp⟩
  | .str x, _, _, h, _, r => by
    cases h
    obtain ⟨t, rfl⟩ := r
    exact ⟨_, Reads.str x t, by simp⟩
  | .list ds, _, _, h, p, r => by cases p
  | .tuple ds, _, _, h, p, r => by
    cases h with
    | tup hs ha hl =>
      cases r
      obtain ⟨its, rv, ⟨o, ho, hc, n, hd⟩, _⟩ := I.tuple (SqT.of hs)
      obtain ⟨as, hr, hm⟩ := Th.readsPAll I ds _ its ha p rv
      exact ⟨_, Reads.tuple ho hc hd hr, hm⟩
  | .dict kvs0, _, _, h, p, r => by
    cases h with
    | dic ha hl =>
      rename_i a kvs
      cases r
      obtain ⟨_, hne, vs, kv, o, es, ep, ho, hx, hd, _, he, _⟩ := I.hok a _ ha
      obtain ⟨r1, r2⟩ := kv_reads (P := X.prog) (w := X.w) (h := s.heap) kv he
      refine ⟨_, Reads.dict ho hx.1 hd r1 r2, fun hm => ?_⟩
      have ea : sysModules = a := List.mem_singleton.mp hm
      rw [← ea] at hne
      exact absurd hne (by decide)
theorem Th.readsPAll (I : Inv X pins σ H s) : ∀ (ds : List PyData) (vs : List V) (us : List Value), ThAll H vs ds → plainAll ds = true → Vals vs us → ∃ as, ReadsAll s.heap us ds as ∧ sysModules ∉ as
  | [], _, _, h, _, r => by
    cases h
    cases r
    exact ⟨_, ReadsAll.nil, by simp⟩
  | d :: ds, _, _, h, p, r => by
    have p2 : (plainD d && plainAll ds) = true := p
    rw [Bool.and_eq_true] at p2
    cases h with
    | cons h1 h2 =>
      cases r with
      | cons r1 r2 =>
        obtain ⟨as, q1, m1⟩ := Th.readsP I d _ _ h1 p2.1 r1
        obtain ⟨bs, q2, m2⟩ := Th.readsPAll I ds _ _ h2 p2.2 r2
        exact ⟨_, ReadsAll.cons q1 q2, fun hm => (List.mem_append.mp hm).elim m1 m2⟩
end
end
/-- without dicts; else without lists -/
def okB (b : Bool) (d : PyData) : Bool := if b then plainD d else !d.hasDict
def okBAll (b : Bool) (ds : List PyData) : Bool := if b then plainAll ds else !PyData.hasDictAll ds
structure Fit (b : Bool) (n L : Nat) (d : PyData) : Prop where
  ok : okB b d = true
  sh : d.showable = true
  dp : d.depth ≤ n
  ln : d.shown.length ≤ L
structure FitAll (b : Bool) (n L : Nat) (ds : List PyData) : Prop where
  ok : okBAll b ds = true
  sh : PyData.showableAll ds = true
  dp : PyData.depthAll ds ≤ n
  ln : ((PyData.shownAll ds).map (·.length)).sum + 2 * ds.length ≤ L
theorem Fit.mono {b : Bool} {n m L M : Nat} {d : PyData} (h : Fit b n L d) (h1 : n ≤ m) (h2 : L ≤ M) : Fit b m M d := ⟨h.ok, h.sh, Nat.le_trans h.dp h1, Nat.le_trans h.ln h2⟩
theorem FitAll.mono {b : Bool} {n m L M : Nat} {d : List PyData} (h : FitAll b n L d) (h1 : n ≤ m) (h2 : L ≤ M) : FitAll b m M d := ⟨h.ok, h.sh, Nat.le_trans h.dp h1, Nat.le_trans h.ln h2⟩
theorem FitAll.nil {b : Bool} {n : Nat} : FitAll b n 0 [] := ⟨by cases b <;> rfl, rfl, Nat.zero_le _, Nat.le_refl _⟩
theorem FitAll.cons {b : Bool} {n L M : Nat} {d : PyData} {ds : List PyData} (h : Fit b n L d) (t : FitAll b n M ds) : FitAll b n (L + 2 + M) (d :: ds) := by
  refine ⟨?_, ?_, ?_, ?_⟩
  · cases b with
    | true =>
      show (plainD d && plainAll ds) = true
      rw [show plainD d = true from h.ok, show plainAll ds = true from t.ok]
      rfl
    | false =>
      show (!(d.hasDict || PyData.hasDictAll ds)) = true
      rw [(Bool.not_eq_true' _).mp (show (!d.hasDict) = true from h.ok), (Bool.not_eq_true' _).mp (show (!PyData.hasDictAll ds) = true from t.ok)]
      rfl
  · show (d.showable && PyData.showableAll ds) = true
    rw [h.sh, t.sh]
    rfl
  · show max d.depth (PyData.depthAll ds) ≤ n
    have := h.dp
    have := t.dp
    omega
  · have h1 := h.ln
    have h2 := t.ln
    simp only [PyData.shownAll, List.map_cons, List.sum_cons, List.length_cons]
    omega
theorem FitAll.tup {b : Bool} {n L : Nat} {ds : List PyData} (h : FitAll b n L ds) : Fit b (n + 1) (L + 3) (.tuple ds) := by
  refine ⟨?_, ?_, ?_, ?_⟩
  · cases b with
    | true => exact h.ok
    | false => exact h.ok
  · exact h.sh
  · exact Nat.succ_le_succ h.dp
  · have h2 := tupleText_len_le (PyData.shownAll ds)
    have h3 := PyData.shownAll_length ds
    have h4 := h.ln
    have e : (PyData.tuple ds).shown = tupleText (PyData.shownAll ds) := by simp only [PyData.shown]
    rw [e]
    omega
theorem FitAll.lst {n L : Nat} {ds : List PyData} (h : FitAll false n L ds) : Fit false (n + 1) (L + 3) (.list ds) := by
  refine ⟨?_, ?_, ?_, ?_⟩
  · exact h.ok
  · exact h.sh
  · exact Nat.succ_le_succ h.dp
  · have h2 := listText_len_le (PyData.shownAll ds)
    have h3 := PyData.shownAll_length ds
    have h4 := h.ln
    have e : (PyData.list ds).shown = listText (PyData.shownAll ds) := by simp only [PyData.shown]
    rw [e]
    omega
/-- ints -/
theorem fitInts {b : Bool} : ∀ {zs : List Int}, (∀ z ∈ zs, 0 ≤ z ∧ z ≤ 100) → FitAll b 0 (1722 * zs.length) (zs.map PyData.int)
  | [], _ => FitAll.nil
  | z :: zs, h => by
    have n := neatInt (h z List.mem_cons_self).1 (h z List.mem_cons_self).2
    have l1 := PyData.shown_le 80 (by decide) (.int z) n.lv
    have w1 := n.wt
    have f : Fit b 0 1720 (.int z) := ⟨by cases b <;> rfl, n.sh, n.dp, by omega⟩
    have a := FitAll.cons f (fitInts (b := b) fun y hy => h y (List.mem_cons_of_mem _ hy))
    have e : 1720 + 2 + 1722 * zs.length = 1722 * (z :: zs).length := by rw [List.length_cons]; omega
    rw [e] at a
    exact a
theorem fitLot {b : Bool} {zs : List Int} (hl : zs.length ≤ 62) (h : ∀ z ∈ zs, 0 ≤ z ∧ z ≤ 100) : Fit b 1 106800 (.tuple (zs.map PyData.int)) := (fitInts (b := b) h).tup.mono (Nat.le_refl _) (by omega)
/-- lots ahead -/
theorem fitLots {b : Bool} {n L : Nat} {ds : List PyData} (hd : FitAll b (n + 1) L ds) : ∀ {ts : List (List Int)}, (∀ zs ∈ ts, zs.length ≤ 62 ∧ ∀ z ∈ zs, 0 ≤ z ∧ z ≤ 100) → FitAll b (n + 1) (106802 * ts.length + L) ((ts.map fun zs => PyData.tuple (zs.map PyData.int)) ++ ds)
  | [], _ => by
    have e : 106802 * ([] : List (List Int)).length + L = L := by simp
    rw [e]
    exact hd
  | t :: ts, h => by
    have a := FitAll.cons ((fitLot (b := b) (h t List.mem_cons_self).1 (h t List.mem_cons_self).2).mono (show 1 ≤ n + 1 by omega) (Nat.le_refl _)) (fitLots hd fun y hy => h y (List.mem_cons_of_mem _ hy))
    have e : 106800 + 2 + (106802 * ts.length + L) = 106802 * (t :: ts).length + L := by rw [List.length_cons]; omega
    rw [e] at a
    exact a
/-- okD is fit -/
theorem okT_fit {d : PyData} {v : V} {H : Hp} (h : okT d = true) (ht : Th H v d) : ∃ b, Fit b 40 8200100 d := by
  rcases Bool.or_eq_true_iff.mp h with h1 | h1
  · have n := okD_neat h1
    have l1 := PyData.shown_le 80 (by decide) d n.lv
    have w1 := n.wt
    exact ⟨false, by show (!d.hasDict) = true; rw [n.nd]; rfl, n.sh, n.dp, by omega⟩
  · cases ht with
    | dic ha hl =>
      rename_i a kvs
      simp only [Bool.and_eq_true, decide_eq_true_eq] at h1
      have hd : ∀ l : List (Int × Int), PyData.depthKv (kvD l) = 0 := fun l => by
        induction l with
        | nil => rfl
        | cons p l ih =>
          show max (max (PyData.depth (.int p.1)) (PyData.depth (.int p.2))) (PyData.depthKv (kvD l)) = 0
          rw [ih]
          rfl
      refine ⟨true, rfl, h1.1.1.2, ?_, Nat.le_trans h1.1.2 (by decide)⟩
      show PyData.depthKv (kvD kvs) + 1 ≤ 40
      rw [hd]
      decide
    | _ => cases h1
/-- a thing that repr shows -/
def Ts (H : Hp) (v : V) (d : PyData) : Prop := Th H v d ∧ ∃ b, Fit b 60 16000000 d
/-- repr(x) of such a thing -/
def rReprX (K : PySem.W.Frag) : List V → Hp → VK → Prop := fun xs H Q => ∃ x d, xs = [x] ∧ Ts H x d ∧ Q (.str d.shown) H
theorem call_reprX {X : Cx} (hg : X.A.guards = some []) (hu : X.A.units + 100 < cLine) : CallR X (.builtin "repr") (rReprX X.K) := by
  intro pins s σ H xs us Q I r h
  obtain ⟨x, d, rfl, ⟨hd, b, f⟩, q⟩ := h
  cases b with
  | false =>
    have nd : d.hasDict = false := (Bool.not_eq_true' _).mp f.ok
    exact call_reprD hg hu pins s σ H [x] us Q I r ⟨x, d.shown, rfl, Or.inl ⟨d, hd.dp nd, nd, f.sh, f.dp, Nat.le_trans f.ln (by rw [sizeLine_eq]; omega), rfl⟩, q⟩
  | true =>
    obtain ⟨u, rfl, ru⟩ := r.one
    have hp : plainD d = true := f.ok
    obtain ⟨as, rd, hm⟩ := Th.readsP I d x u hd hp ru
    have fin : ∀ tk t, EP X pins σ Q (.str d.shown t) { s with toks := tk } := fun tk t => ⟨.str d.shown, H, I.tok _, ⟨t, rfl⟩, q⟩
    have hl : d.shown.length ≤ sizeLine := Nat.le_trans f.ln (by rw [sizeLine_eq]; omega)
    have byRef : ∀ {a : Addr}, u = .ref a → wpAny (model X.prog X.w) X.A (call (.builtin "repr") [u]) (EP X pins σ Q) X.xe s := fun {a} e => by
      subst e
      exact repr_of_reads' rd f.sh (fun _ => hm) hg (by have := f.dp; omega) (fun _ _ e => e) (fun h' t tk hk => ⟨.str d.shown, H, I.kept (t' := tk) hk, ⟨t, rfl⟩, q⟩) hl
    cases hd with
    | non =>
      cases ru
      exact PySem.P.repr_of_none (fin _ _)
    | bl b =>
      cases ru
      have e : (PyData.bool b).shown = (if b then "True" else "False" : Str) := PyData.shown_bool b
      exact PySem.P.repr_of_bool (by rw [← e]; exact fin _ _)
    | int i =>
      obtain ⟨t, rfl⟩ := ru
      exact PySem.P.repr_of_int (of_decide_eq_true f.sh) (fin _ _)
    | str y =>
      obtain ⟨t, rfl⟩ := ru
      exact PySem.P.repr_of_str (fin _ _) hl
    | lst _ _ => cases hp
    | tup _ _ _ =>
      cases ru
      exact byRef rfl
    | dic _ _ =>
      cases ru
      exact byRef rfl
end Kv
/-! enumerate over a tuple -/
namespace Kv
open PySem PySem.Spec PyProof.Rows L2
/-- the record that enumerate makes over the iterator at j -/
abbrev enO (j : Addr) : Obj := { cls := .type "enumerate", data := .fields #[.none, .bool false, .ref j, rawInt 0, .none, .none] }
theorem new_enum1 {v : Value} {src : Obj} {Pre : Heap → Prop} (B : Begins v src Pre) :
    Meets (Builtin.«enumerate.__new__» ⟨[.type "enumerate", v], []⟩) (fun _ R z => Pre z.heap ∧ R (.ok (.ret (.ref (z.heap.push src).objs.size))) { z with heap := (z.heap.push src).push (enO z.heap.objs.size) }) :=
  .of_wp fun prog w A R z pre => by
    obtain ⟨h0, gs, dr, k, io⟩ := z
    obtain ⟨ok, back⟩ := pre
    have subE := sub_enumerate
    have start : ∀ {A2 : Around} {X2 : Value → Shared → Prop} {Q2 : Value → Shared → Prop}, Q2 (.ref h0.objs.size) ⟨h0.push src, gs, dr, k, io⟩ → wpAny (model prog w) A2 (pyIter v) Q2 X2 ⟨h0, gs, dr, k, io⟩ := fun y => B.iter prog w _ _ ⟨h0, gs, dr, k, io⟩ _ ok y
    wp_walk using start
    refine wpAny_stack_any fun _ => wpAny_pure ?_
    split
    · rename_i cl _ _ _ _ _
      cases (cl == Value.type "enumerate") <;> (wp_walk using start; exact ⟨_, rfl, back⟩)
    · wp_walk using start
      exact ⟨_, rfl, back⟩
section
variable {prog : Program} {w : World} {A : Around} {X0 : Value → Shared → Prop} {z : Shared}
theorem call_enum1 {v : Value} {src : Obj} {Pre : Heap → Prop} {Q : Value → Shared → Prop} (B : Begins v src Pre) (ok : Pre z.heap)
    (fin : ∀ h2, IsEnum h2 (z.heap.objs.size + 1) z.heap.objs.size 0 .none → h2.get? z.heap.objs.size = some src → (∀ b o, z.heap.get? b = some o → h2.get? b = some o) → Q (.ref (z.heap.objs.size + 1)) { z with heap := h2 }) :
    wpAny (model prog w) A (call (.type "enumerate") [v]) Q X0 z := by
  refine callType_new F.called_enumerate (by decide) (F.typeCall_enumerate_1 _) (F.newCall_enumerate_1 _) (fun obj => F.args_object_init_2 obj _) F.entry_enumerate_new (new_enum1 B) ⟨ok, ?_⟩
  have n1 : (z.heap.push src).objs.size = z.heap.objs.size + 1 := Heap.size_push ..
  have made : ((z.heap.push src).push (enO z.heap.objs.size)).get? (z.heap.objs.size + 1) = some (enO z.heap.objs.size) := by
    rw [← n1]
    exact Heap.get?_push_size _ rfl
  rw [n1]
  exact ⟨⟨_, made, rfl⟩, fin _ made (Heap.get?_push_of_some _ (Heap.get?_push_size _ B.free)) fun b o y => Heap.get?_push_of_some _ (Heap.get?_push_of_some _ y)⟩
end
/-- at each turn a new pair of the number and the tuple's item -/
def IteT (K : PySem.W.Frag) (a : Addr) : It :=
  ⟨fun i H => ∃ (xs : List V) (x : V), SqT K H a xs ∧ xs[i]? = some x, fun i H v H' => ∃ T x, v = .ref T ∧ H T = none ∧ H' = upd H T (.tup [.int (i : Nat), x]) ∧ ∀ xs, SqT K H a xs → xs[i]? = some x, fun i H => ∃ xs : List V, SqT K H a xs ∧ xs.length ≤ i⟩
/-- how the enumerate object c over the iterator j over the tuple a stands at turn i -/
def EnSt (c j a : Addr) (i : Nat) (h : Heap) : Prop := (∃ last, IsEnum h c j ((i : Nat) : Int) last) ∧ h.IsTupleIter j a i ∧ c ≠ j
theorem two {c j b : Addr} (hb : b ∈ [c, j]) : b = c ∨ b = j := by simpa using hb
theorem en_apart {h : Heap} {c j a : Addr} {k : Int} {last : Value} {i : Nat} {its : Array Value} (hc : IsEnum h c j k last) (hj : h.IsTupleIter j a i) (ht : h.IsTuple a its) : a ≠ j ∧ c ≠ a := by
  obtain ⟨ot, gt, ct, _⟩ := ht
  refine ⟨fun y => ?_, fun y => ?_⟩
  · obtain ⟨oj, gj, cj, _⟩ := hj
    rw [y, gj] at gt
    have eo : oj = ot := Option.some.inj gt
    rw [← eo, cj] at ct
    exact absurd ct (by decide)
  · rw [← y, show h.get? c = _ from hc] at gt
    have eo := (Option.some.inj gt).symm
    rw [eo] at ct
    exact absurd (show Value.type "enumerate" = Value.type "tuple" from ct) (by decide)
theorem turn_enumT {P : Program} {w : World} {K : PySem.W.Frag} {elts : List Expr} {kk : Nat} {tpos : Pos} (a c j : Addr) : Turn P w K (.Tuple elts kk tpos) (IteT K a) [c, j] c (EnSt c j a) where
  mem := List.mem_cons_self
  obj := fun i h st b hb => by
    obtain ⟨⟨last, hc⟩, ⟨oj, gj, _, dj⟩, _⟩ := st
    rcases two hb with y | y <;> rw [y]
    · exact ⟨_, hc, fun v q => nomatch q⟩
    · exact ⟨oj, gj, fun v q => by rw [dj] at q; cases q⟩
  keep := fun i h h2 st kp => ⟨⟨st.1.choose, kp c (by simp) _ st.1.choose_spec⟩, st.2.1.at fun o y => kp j (by simp) o y, st.2.2⟩
  item := by
    rintro X rfl rfl rfl calm i pins s σ H E I fp ⟨⟨last, hc⟩, hj, ncj⟩ ⟨xs, x, hx, xi⟩
    obtain ⟨its, rv, isT, _⟩ := I.tuple hx
    obtain ⟨u, ui, ru⟩ := rv.get xi
    have tup : s.heap.IsTuple a its.toArray := isT
    obtain ⟨naj, nca⟩ := en_apart hc hj tup
    have cs : c < s.heap.objs.size := Heap.lt_size hc
    have js : j < s.heap.objs.size := Heap.lt_size hj.choose_spec.1
    have inR : i < its.toArray.size := by simpa using (List.getElem?_eq_some_iff.mp ui).1
    have out : c ∉ [j, a] := fun y => (List.mem_cons.mp y).elim ncj fun y => nca (List.mem_singleton.mp y)
    refine wpAny_pyNext_enum_itemD (Draws.tuple (A := X.A.in1) (show X.A.in1.handled = none from I.ok.hd calm) j a naj its.toArray) hc ⟨hj, tup⟩ inR ncj out fun u2 h2 tk hu2 gave st2 newT _ kept => ?_
    have same : u2 = u := Option.some.inj ((show its[i]? = some u2 by simpa using hu2).symm.trans ui)
    subst same
    refine ⟨_, rfl, wpAny_letOwnedTupleGo_enum (s := { s with heap := h2, toks := tk + 1 }) gave fun h3 hc3 only => ?_⟩
    have newT3 := (only.2 _ (Nat.ne_of_gt cs)).trans newT
    have kept3 : ∀ b o, b ∉ [c, j] → s.heap.get? b = some o → h3.get? b = some o := fun b o nb y => by
      have n1 : b ≠ c := fun e => nb (by simp [e])
      have n2 : b ≠ j := fun e => nb (by simp [e])
      exact (only.2 b n1).trans (kept b o n1 n2 y)
    have J : Inv X pins σ (upd H s.heap.objs.size (.tup [.int (i : Nat), x])) { s with heap := h3, toks := tk + 1 } :=
      I.turnedNew kept3 fp (Nat.le_refl _) ⟨by show 2 ≤ sizeLine; decide, _, .cons ⟨tk, rfl⟩ (.cons ru .nil), ⟨_, newT3, rfl, _, rfl⟩⟩
    refine ⟨.ref s.heap.objs.size, _, J, rfl, ⟨_, x, rfl, I.hok.fresh (Nat.le_refl _), rfl, fun ys hy => by rw [I.tuple_inj hy hx]; exact xi⟩, ⟨⟨u2, ?_⟩, st2.1.at fun o y => (only.2 j (Ne.symm ncj)).trans y, ncj⟩, fun b hb => ?_⟩
    · rw [show ((i + 1 : Nat) : Int) = (i : Int) + 1 by omega]
      exact hc3
    · have lt : b < s.heap.objs.size := (two hb).elim (fun y => y ▸ cs) fun y => y ▸ js
      rw [upd_ne (Nat.ne_of_lt lt)]
      exact (fp b hb).1
  done := by
    rintro X rfl rfl rfl calm i pins s σ H E I fp ⟨⟨last, hc⟩, hj, ncj⟩ ⟨xs, hx, le⟩
    obtain ⟨its, rv, isT, _⟩ := I.tuple hx
    have len := rv.length
    obtain ⟨a0, a1, a2, a3, a4, a5⟩ := fp j (by simp)
    have ty : s.TypeIs (.ref c) "enumerate" := ⟨_, hc, rfl⟩
    unfold pyNext
    refine wpAny_bind (wpAny_attempt (wpAny_callSpecial?_slot (name := Str.ofString "__next__") ty F.slot_enumerate_next (wpAny_call_entry F.slot_enumerate_next ty F.entry_enumerate_next ?_ (F.args_enumerate_next_1 _))))
    show wpAny _ _ (field (.ref c) 2 >>= _) _ _ _
    refine wpAny_bind (wpAny_field hc rfl (x := .ref j) rfl (wpAny_bind (wpAny_nextOf_tuple_end (I.ok.hd calm) hj (show s.heap.IsTuple a its.toArray from isT) (by simp; omega) fun h2 er kept stop => ?_)))
    exact wpAny_bind (wpAny_isInstance (T := "StopIteration") (b := true) stop isSubtype_stop (wpAny_pure ⟨rfl, I.turned (t' := s.toks) (fun b o nb y => kept b o nb y) a0 a1 a3 a4 a5⟩))
  self := fun A i s Q E st y => wpAny_pyIter_enum st.1.choose_spec y
def iEnumT (K : PySem.W.Frag) (ta : TA) : TI := fun σ H R => ta σ H fun vs H1 => ∃ a xs, vs = [.ref a] ∧ SqT K H1 a xs ∧ R (IteT K a) H1
theorem pi_enumT {X : Cx} {e : Expr} {ta : TA} {p pos tpos : Pos} {elts : List Expr} {kk : Nat} (hg : Gl X "enumerate") (hm : X.mg "enumerate" = none) (ha : PA X [e] ta) (hs : starEach [e] X.env = [(false, eval e X.env)] := by rfl) :
    PI X (.Tuple elts kk tpos) (.Call (.Name "enumerate" p) [e] [] pos) (iEnumT X.K ta) := by
  refine ⟨fun pins s σ H R I h => ?_⟩
  refine Call_ (ld_blt I hg hm boot_enumerate (PyProof.Rows.callWith_type1 (thn (ha.run pos pins s σ H _ I h) fun us t y => ?_) hs rfl))
  obtain ⟨vs, G, J, rel, a, xs, rfl, hx, q⟩ := y
  obtain ⟨u, rfl, ru⟩ := rel.one
  cases ru
  obtain ⟨its, rv, isT, _⟩ := J.tuple hx
  refine call_enum1 (begins_tuple a its.toArray) (show t.heap.IsTuple a its.toArray from isT) fun h2 hc hj kept => wpAny_pyIter_enum hc ?_
  refine ⟨t.heap.objs.size + 1, [t.heap.objs.size + 1, t.heap.objs.size], _, _, G, rfl, J.kept (t' := t.toks) kept, turn_enumT a _ _, ⟨⟨.none, hc⟩, ⟨_, hj, rfl, rfl⟩, Nat.succ_ne_self _⟩, fun b hb => ?_, q⟩
  have above : t.heap.objs.size ≤ b := (two hb).elim (fun y => by rw [y]; exact Nat.le_succ _) fun y => by rw [y]; exact Nat.le_refl _
  exact J.fpOk above (J.hok.fresh above)
theorem walk_enumT {K : PySem.W.Frag} {a : Addr} {xs : List V} : Walk (IteT K a) xs.length (fun H => H a = some (.tup xs)) (YPair (fun i => some (.int (i : Nat))) (fun i => xs[i]?)) where
  goes := fun i H hi h => ⟨xs, xs[i], SqT.of h, List.getElem?_eq_getElem hi⟩
  stops := fun H h => ⟨xs, SqT.of h, Nat.le_refl _⟩
  yields := fun i H x H' hi h y => by
    obtain ⟨T, x2, ev, hT, eH, hx⟩ := y
    exact ⟨T, _, x2, ev, hT, eH, rfl, hx xs (SqT.of h)⟩
end Kv
/-! isinstance of the caught error, without fields too; several classes -/
namespace Kv
open PySem PySem.Spec PyProof.Rows L2
/-- the caught error's class, and its own dict, if it has one -/
def ErrIs (K : PySem.W.Frag) (cls : Value) (d : Option Addr) (D : Addr) (H : Hp) : Prop := cls = .ref D ∧ errB K D = true ∧ (d = none ∨ ∃ dd fs, d = some dd ∧ H dd = some (.xd fs))
section
variable {X : Cx} {a : Addr} {oe : Obj} {cls : Value} {d : Option Addr} {pn : List (Addr × Obj)}
theorem errAt {pins : List (Addr × Obj)} {σ : L2.St} {H : Hp} {s : Shared} {D : Addr} (hz : Zc cls d oe) (hf : ∃ vs, oe.data = .fields vs) (I : Inv (X.suite a ((a, oe) :: pn)) pins σ H s) (h : ErrIs X.K cls d D H) : ∃ od, PySem.W.InstAt s.heap a oe D od := by
  obtain ⟨rfl, hB, hd⟩ := h
  obtain ⟨there, _⟩ := I.pin (a, oe) (List.mem_append_left _ List.mem_cons_self)
  obtain ⟨vs, hv⟩ := hf
  have plain : PySem.W.notCls oe = true := by
    unfold PySem.W.notCls
    rw [hv]
  rcases hd with rfl | ⟨dd, fs, rfl, hx⟩
  · refine ⟨none, there, hz.1, plain, ?_⟩
    rw [hz.2]
    trivial
  · obtain ⟨mA, hns, _⟩ := (show ObjOk X.prog X.w H s.heap dd (.xd fs) from I.hok dd _ hx)
    obtain ⟨od, ho, _⟩ := lookIn_ns hns
    refine ⟨some od, there, hz.1, plain, ?_⟩
    rw [hz.2]
    exact ho
def rIsC (K : PySem.W.Frag) (a : Addr) (cls : Value) (d : Option Addr) : List V → Hp → VK → Prop := fun xs H Q => ∃ (D : Addr) (c : V) (cv : Value) (b : Bool), ErrIs K cls d D H ∧ xs = [.ref a, c] ∧ ClsV c cv ∧ PySem.W.kitOne K (.ref D) cv = some b ∧ Q (.bl b) H
theorem call_isC (hz : Zc cls d oe) (hf : ∃ vs, oe.data = .fields vs) : CallR (X.suite a ((a, oe) :: pn)) (.builtin "isinstance") (rIsC X.K a cls d) := by
  intro pins s σ H xs us Q I r h
  obtain ⟨D, c, cv, b, he, rfl, hc, hk, q⟩ := h
  obtain ⟨u, v, rfl, ru, rc⟩ := r.two
  cases ru
  cases hc.eq rc
  obtain ⟨od, J⟩ := errAt hz hf I he
  exact PySem.W.kia_one (kit_err he.2.1) I.kIn J hk (fun y => nomatch y) fun tk => ⟨.bl b, H, I.kept (t' := tk) fun _ _ y => y, rfl, q⟩
/-- isinstance(e, (C1, C2)) -/
def rIsCT (K : PySem.W.Frag) (a : Addr) (cls : Value) (d : Option Addr) : List V → Hp → VK → Prop := fun xs H Q => ∃ (D tp : Addr) (cs : List V) (ws : List Value) (b : Bool), ErrIs K cls d D H ∧ xs = [.ref a, .ref tp] ∧ H tp = some (.tup cs) ∧ Paired ClsV cs ws ∧ PySem.W.kitAny K (.ref D) ws = some b ∧ Q (.bl b) H
theorem call_isCT (hz : Zc cls d oe) (hf : ∃ vs, oe.data = .fields vs) : CallR (X.suite a ((a, oe) :: pn)) (.builtin "isinstance") (rIsCT X.K a cls d) := by
  intro pins s σ H xs us Q I r h
  obtain ⟨D, tp, cs, ws, b, he, rfl, hT, hc, hk, q⟩ := h
  obtain ⟨u, v, rfl, ru, rc⟩ := r.two
  cases ru
  cases (show v = Value.ref tp from rc)
  obtain ⟨od, J⟩ := errAt hz hf I he
  obtain ⟨_, its, rv, ⟨oc, oo, dt, sl⟩, h1, h2, n, h3⟩ := (show ObjOk X.prog X.w H s.heap tp (.tup cs) from I.hok tp _ hT)
  have e := ClsV.all hc rv
  subst e
  dsimp only at h2 h3
  subst h2 h3
  exact PySem.W.kia_tup (kit_err he.2.1) I.kIn J h1 hk (fun y => nomatch y) fun tk => ⟨.bl b, H, I.kept (t' := tk) fun _ _ y => y, rfl, q⟩
end
end Kv
/-! several except clauses, each with the same name -/
namespace Kv
open PySem PySem.Spec PyProof.Rows L2
def wManyAs (K : PySem.W.Frag) (i : Nat) (Wout : WX) (D : Ends) : List (Value × (Addr → Value → Option Addr → TS)) → WX
  | [] => Wout
  | (c, ts) :: r => fun cls d σ H => ∃ b, PySem.W.exmOne K cls c = some b ∧ (b = true → ∀ a, H a = none → ts a cls d { nx := fun σ' H' => D.nx (σ'.set i none) H', rt := D.rt, bk := fun σ' H' => D.bk (σ'.set i none) H', ct := fun σ' H' => D.ct (σ'.set i none) H' } (σ.set i (some (.ref a))) H) ∧
    (b = false → wManyAs K i Wout D r cls d σ H)
inductive HdsAs (X : Cx) (n : Str) : List ExceptHandler → List (Value × (Addr → Value → Option Addr → TS)) → Prop
  | nil : HdsAs X n [] []
  | cons {x : Str} {c : Value} {ts : Addr → Value → Option Addr → TS} {b₀ : Stmt} {suite : List Stmt} {np pos' : Pos} {hds : List ExceptHandler} {l : List (Value × (Addr → Value → Option Addr → TS))} (hc : Names X x c)
      (hsu : ∀ (a : Addr) (oe : Obj) (cls : Value) (d : Option Addr) (pn : List (Addr × Obj)), Zc cls d oe → (∃ vs, oe.data = .fields vs) → PSs (X.suite a ((a, oe) :: pn)) (b₀ :: suite) (ts a cls d)) (r : HdsAs X n hds l) :
      HdsAs X n (.ExceptHandler (some (.Name x np)) (some n) (b₀ :: suite) pos' :: hds) ((c, ts) :: l)
section
variable {X : Cx} {n : Str} {i : Nat} {body : List Stmt} {h₀ : ExceptHandler} {hds : List ExceptHandler} {l : List (Value × (Addr → Value → Option Addr → TS))} {pos : Pos} {tb : WX → TS} {Wout : WX}
theorem ps_try_manyAs (hs : X.stack = X.env :: X.outer) (hf : X.env.frame = some X.env.locals) (hN : X.N.Nodup) (hi : X.N[i]? = some n) (hln : X.env.kindOf n = some .local) (tk : Takes X Wout)
    (hb : ∀ (W : WX) (pn : List (Addr × Obj)) (xe : Value → Shared → Prop), Takes (X.tr pn xe) W → PassesOwn (model X.prog X.w) X.A X.env xe → PSs (X.tr pn xe) body (tb W))
    (hh : HdsAs X n (h₀ :: hds) l) : PS X (.Try body (h₀ :: hds) [] [] pos) (fun D σ H => tb (wManyAs X.K i Wout D l) D σ H) := by
  refine ⟨fun pins s σ H D I h => ?_⟩
  have ok := I.ok
  have hfr : X.A.frames = some (X.env :: X.outer) := by rw [ok.frames, hs]
  have hloc : Loc X.env.scope n := .inl hln
  refine wpAny_Try_except ?_
  refine wpAny_mono ((hb (wManyAs X.K i Wout D l) (X.pn ++ pins) (fun e s₁ => wpAny (model X.prog X.w) X.A (noteFrame e X.env) (fun _ s₂ => wpAny (model X.prog X.w) X.A (setFlight e none) (fun _ s₃ =>
    wpAny (model X.prog X.w) X.A (handleBy e X.env (h₀ :: hds)) (SP X pins D) X.xe s₃) X.xe s₂) X.xe s₁) (fun u s' xx => ?_) PassesOwn.looking).run [] s σ H D (I.toTry _) h) (fun f s1 hsp => ?_) (fun e s1 he => he)
  · obtain ⟨a, B, sI, pins', σ', H', cls, d, rfl, J', nb, up, sky, na, os, ag, w⟩ := xx
    have J : Inv X pins σ' H' sI := J'.ofTry ok
    have sky' : Sky B (X.env :: X.outer) a (Zc cls d) X.env.locals s'.heap := by rw [← hs]; exact sky
    show wpAny (model X.prog X.w) X.A (noteFrame (.ref a) X.env) _ _ _
    refine Sky.land Zc.steady hfr hf sky' fun h3 fl3 up3 => ?_
    have J3 : Inv X pins σ' H' { s' with heap := h3 } := J.landed nb fl3.1 (up.trans up3) os ag
    obtain ⟨oe3, vs3, he3, hz3, hd3⟩ := fl3.there
    have notFr : ∀ {h : Heap} {o : Obj} {vs : Array Value}, h.FunFrames B (X.env :: X.outer) → h.get? a = some o → o.data = .fields vs → a ∉ frs (X.env :: X.outer) := fun {h o vs} ff e dd hm => by
      obtain ⟨_, o', e', hnf⟩ := ff.mem hm
      rw [e] at e'; cases e'
      exact hnf _ dd
    have nfr := notFr fl3.2.2.1 he3 hd3
    have nL : a ≠ X.env.locals := fun z => nfr (List.mem_filterMap.mpr ⟨X.env, List.mem_cons_self, by rw [hf, z]⟩)
    have nF : a ∉ X.fs := fun hm => by
      obtain ⟨e, he, q⟩ := List.mem_filterMap.mp hm
      exact nfr (List.mem_filterMap.mpr ⟨e, List.mem_cons_of_mem _ he, q⟩)
    have S3 := J3.suite he3 hd3 na nL nF
    have go : ∀ {hds' : List ExceptHandler} {l' : List (Value × (Addr → Value → Option Addr → TS))}, HdsAs X n hds' l' → wManyAs X.K i Wout D l' cls d σ' H' →
        wpAny (model X.prog X.w) X.A (handleBy (.ref a) X.env hds') (SP X pins D) X.xe { s' with heap := h3 } := by
      intro hds' l' hk
      induction hk with
      | nil =>
        intro w
        refine wpAny_handleBy_nil ?_
        obtain ⟨k1, k2, k3, oe, vs, T, oT, ts', he, hz, hd, h1, hr⟩ := id fl3
        unfold PySem.passOn
        refine wpAny_bind (wpAny_field he hd h1 ?_)
        rw [if_neg (show ¬ ((Value.ref T == Value.none) = true) from by simp)]
        have fin : wpAny (model X.prog X.w) X.A (setFlight (.ref a) X.env.frame) (fun _ s4 => wpAny (model X.prog X.w) X.A (throw (.ref a) : Sem Flow) (SP X pins D) X.xe s4) X.xe { s' with heap := h3 } := by
          rw [hf]
          refine HandSPX.setFlight_upZ fl3 fun h4 hh4 up4 => wpAny_throw (tk _ _ ?_)
          exact ⟨a, B, sI, pins, σ', H', cls, d, rfl, J, nb, (up.trans up3).trans up4, .inr (.inr (by rw [hs]; exact hh4)), na, os, ag, w⟩
        first
          | exact wpAny_bind (wpAny_pure (wpAny_bind fin))
          | exact wpAny_bind fin
      | @cons x c ts b₀ suite np pos' hds2 l2 hc hsu r ih =>
        intro w
        obtain ⟨b, hb1, hyes, hno⟩ := w
        refine wpAny_handleBy_cons (codeAny_handlers_test ?_) (by intro q; cases q)
        have LT : PySem.W.Looks (model X.prog X.w) h3 (typeOf (.ref a)) cls := fun A Q E s k q => wpAny_typeOf_ref (k _ _ he3) (by rw [hz3.1]; exact q)
        have LM := PySem.W.exm_one (M := model X.prog X.w) (J3.kIn) LT hb1
        have test : ∀ {Q : Value → Shared → Prop} {E : Value → Shared → Prop}, Q c { s' with heap := h3 } → wpAny (model X.prog X.w) (X.A.mark (some (.ref a))) (eval (.Name x np) X.env) Q E { s' with heap := h3 } := fun {Q E} q => by
          obtain ⟨hg, hdbg, hm | ⟨hm, hv, hnn⟩⟩ := hc
          · exact ld_glob (X := X.suite a ((a, oe3) :: (X.pn ++ pins))) S3 hg hm q hdbg
          · exact ld_blt (X := X.suite a ((a, oe3) :: (X.pn ++ pins))) S3 hg hm hv q hnn hdbg
        refine test (LM.here ?_)
        cases b with
        | true =>
          refine codeAny_handlers_suite_as ?_
          refine HandSPX.lands_againZ fl3 fun h4 fl4 up4 => ?_
          have J4 : Inv X pins σ' H' { s' with heap := h4 } := J.landed nb fl4.1 ((up.trans up3).trans up4) os ag
          obtain ⟨oe4, vs4, he4, hz4, hd4⟩ := fl4.there
          have S4 := J4.suite he4 hd4 na nL nF
          refine store_ok (X := X.suite a ((a, oe4) :: (X.pn ++ pins))) (v := .ref a) S4 hN hi hloc rfl (fun s5 S5 => ?_) (.inr hln)
          refine wpAny_mono ((hsu a oe4 cls d (X.pn ++ pins) hz4 ⟨_, hd4⟩).run [] s5 _ H' _ S5 (hyes rfl a na)) (fun f s6 hsp => ?_) (fun _ _ z => False.elim z)
          have end_ : ∀ {σ6 : L2.St} {H6 : Hp} {Q : Shared → Prop}, Inv (X.suite a ((a, oe4) :: (X.pn ++ pins))) [] σ6 H6 s6 → (∀ s7, Inv X pins (σ6.set i none) H6 s7 → Q s7) →
              wpAny (model X.prog X.w) X.A (do bindName X.env n .none; unbindBehindTheSuite X.env n pos') (fun _ s7 => Q s7) X.xe s6 := fun {σ6 H6 Q} S6 hq => gone_ok (S6.unsuite ok) hN hi hln hq
          cases f with
          | next =>
            obtain ⟨σ6, H6, S6, q6⟩ := hsp
            exact end_ S6 fun s7 J7 => ⟨_, _, J7, q6⟩
          | brk =>
            obtain ⟨σ6, H6, S6, q6⟩ := hsp
            exact end_ S6 fun s7 J7 => ⟨_, _, J7, q6⟩
          | cont =>
            obtain ⟨σ6, H6, S6, q6⟩ := hsp
            exact end_ S6 fun s7 J7 => ⟨_, _, J7, q6⟩
          | ret u =>
            obtain ⟨v6, σ6, H6, S6, r6, q6⟩ := hsp
            exact end_ S6 fun s7 J7 => ⟨_, _, _, J7, r6, q6⟩
        | false =>
          show wpAny _ X.A (handleBy (.ref a) X.env hds2) _ _ _
          exact ih (hno rfl)
    exact go hh w
  · cases f with
    | next =>
      obtain ⟨σ', H', J', q⟩ := hsp
      exact wpAny_execs_nil ⟨σ', H', J'.ofTry ok, q⟩
    | brk =>
      obtain ⟨σ', H', J', q⟩ := hsp
      exact ⟨σ', H', J'.ofTry ok, q⟩
    | cont =>
      obtain ⟨σ', H', J', q⟩ := hsp
      exact ⟨σ', H', J'.ofTry ok, q⟩
    | ret u =>
      obtain ⟨v, σ', H', J', r, q⟩ := hsp
      exact ⟨v, σ', H', J'.ofTry ok, r, q⟩
end
end Kv
/-! great products; comprehensions over range(lo, hi); primes -/
namespace Kv
open PySem PySem.Spec PyProof.Rows L2
theorem bits_lt {k : Int} {n : Nat} (h : k.natAbs < 2 ^ n) : Builtin.Int.intBits k ≤ n := by
  unfold Builtin.Int.intBits
  split
  · exact Nat.zero_le _
  · rcases Nat.eq_zero_or_pos k.natAbs with h0 | hp
    · rename_i hk
      exact absurd (by rw [Int.natAbs_eq_zero.mp h0]; rfl) hk
    · have := (Nat.log2_lt (Nat.ne_of_gt hp)).mpr h
      omega
/-- ints of at most a million bits -/
def CBig (i j : Int) : Prop := i.natAbs < 2 ^ 1000000 ∧ j.natAbs < 2 ^ 1000000
theorem op_mulBig {X : Cx} : OpR X (binaryOp .Mult) (rI CBig fun i j => .int (i * j)) := opI fun _ _ _ _ _ _ _ hc q => mul_int q (IntMulOk.of_bits (Nat.le_trans (bits_lt hc.1) (by decide)) (Nat.le_trans (bits_lt hc.2) (by decide)))
theorem bigPow {B E x : Nat} (hB : B ≤ 256) (hE : E ≤ 100000) (h : x ≤ B ^ E) : x < 2 ^ 1000000 := by
  have h1 : B ^ E ≤ 256 ^ E := Nat.pow_le_pow_left hB E
  have h2 : (256 : Nat) ^ E = 2 ^ (8 * E) := by rw [Nat.pow_mul]
  have h3 : (2 : Nat) ^ (8 * E) < 2 ^ 1000000 := Nat.pow_lt_pow_right (by decide) (by omega)
  omega
/-- a step of powers by halving -/
theorem powHalf {f b e B E : Nat} (h : f * b ^ e = B ^ E) : (if e % 2 = 1 then f * b else f) * (b * b) ^ (e / 2) = B ^ E := by
  have e1 : (b * b) ^ (e / 2) = b ^ (2 * (e / 2)) := by rw [Nat.pow_mul, Nat.pow_two]
  rw [e1]
  split
  · rename_i h1
    rw [Nat.mul_assoc, Nat.mul_comm b, ← Nat.pow_succ, ← h]
    congr 2
    omega
  · rw [← h]
    congr 2
    omega
theorem pow_facts {f b e B E : Nat} (hb : 1 ≤ b) (hB : 1 ≤ B) (h : f * b ^ e = B ^ E) : 1 ≤ f ∧ f ≤ B ^ E ∧ (0 < e → b ≤ B ^ E) := by
  have hp : 1 ≤ B ^ E := Nat.one_le_pow _ _ hB
  have hbe : 1 ≤ b ^ e := Nat.one_le_pow _ _ hb
  have hf : 1 ≤ f := Nat.pos_of_ne_zero fun z => by
    rw [z, Nat.zero_mul] at h
    omega
  refine ⟨hf, by rw [← h]; exact Nat.le_mul_of_pos_right f hbe, fun he => ?_⟩
  have h1 : b ≤ b ^ e := Nat.le_self_pow (by omega) b
  have h2 : b ^ e ≤ f * b ^ e := Nat.le_mul_of_pos_left _ hf
  omega
/-! ### ints from lo on -/
def upFrom (lo : Int) (n : Nat) : List Int := (List.range n).map fun (i : Nat) => lo + (i : Int)
theorem upFrom_get {lo : Int} {n i : Nat} (h : i < n) : (upFrom lo n)[i]? = some (lo + (i : Int)) := by
  unfold upFrom
  rw [List.getElem?_map, List.getElem?_range h]
  rfl
theorem upFrom_len (lo : Int) (n : Nat) : (upFrom lo n).length = n := by
  unfold upFrom
  rw [List.length_map, List.length_range]
theorem upFrom_mem {lo : Int} {n : Nat} {z : Int} : z ∈ upFrom lo n ↔ lo ≤ z ∧ z < lo + n := by
  unfold upFrom
  rw [List.mem_map]
  constructor
  · rintro ⟨i, hi, rfl⟩
    have := List.mem_range.mp hi
    omega
  · rintro ⟨h0, h1⟩
    exact ⟨(z - lo).toNat, List.mem_range.mpr (by omega), by omega⟩
section
variable {K : PySem.W.Frag} {D : Addr} {j : Nat} {tt : TT} {te : TE} {σ : L2.St} {H1 : Hp} {Qd : Hp → Prop}
theorem lcV_rangeL {lo : Int} {n : Nat} (p : Int → Bool) (f : Int → V) (hlen : n ≤ 1000) (nD : H1 D = none)
    (ht : ∀ z ∈ upFrom lo n, ∀ G, Same H1 G → ∀ R : Bool → Hp → Prop, (∀ G2, Same G G2 → R (p z) G2) → tt ((wipe σ [j]).set j (some (.int z))) G R)
    (he : ∀ z ∈ upFrom lo n, p z = true → ∀ G, Same H1 G → ∀ R : VK, (∀ G2, Same G G2 → R (f z) G2) → te ((wipe σ [j]).set j (some (.int z))) G R)
    (fin : ∀ G, Same H1 G → G D = some (.lst (((upFrom lo n).filter p).map f)) → Qd G) (hw : ∀ x, wipe ((wipe σ [j]).set j (some x)) [j] = wipe σ [j] := by intro x; rfl) : LcAt (Itr lo n) (gName j) tt te [j] σ D H1 Qd := by
  refine lc_range (lo := lo) (n := n) (fun i G => Same H1 G ∧ G D = some (.lst ((((upFrom lo n).take i).filter p).map f))) ⟨sameNew nD, upd_same⟩ (fun i G hi h => ?_) (fun G h => ?_)
  · exact ⟨hw _, turnV p f (by rw [upFrom_len]; exact hlen) nD ht he (upFrom_get hi) h.1 h.2⟩
  · have e := h.2
    rw [List.take_of_length_le (by rw [upFrom_len]; exact Nat.le_refl _)] at e
    exact fin G h.1 e
end
/-! ### primes -/
def smallPrime (n : Int) : Bool := (((upFrom 2 14).filter fun o => decide (o < n)).map fun o => decide (0 < n % o)).all id
def allPrime (n : Int) : Bool := !((upFrom 2 (n - 2).toNat).map fun o => n % o).contains 0
theorem primesN : ∀ k < 247, smallPrime (5 + (k : Nat)) = allPrime (5 + (k : Nat)) := by decide +kernel
theorem primes_same {n : Int} (h0 : 5 ≤ n) (h1 : n ≤ 251) : smallPrime n = allPrime n := by
  have h := primesN (n - 5).toNat (by omega)
  have e : (5 : Int) + ((n - 5).toNat : Int) = n := by omega
  rw [e] at h
  exact h
def primesL : List Int := (upFrom 5 247).filter smallPrime
theorem primes_len : primesL.length = 52 := by decide +kernel
end Kv
namespace K67
open PySem PySem.Spec PyProof.Rows L2 Kv
def top (i : Nat) : Stmt := PySem.Challenge.pw_sparetrees_k67_whole_counts_of_what_come.main.body.getD i (.Pass ⟨0, 0, 0, 0⟩)
abbrev sis_integer : Stmt := top 5
theorem scis_integer : FnScope ["thing"] ["thing"] (defScope sis_integer) := ⟨rfl, rfl, rfl, by decide +kernel, rfl, by decide +kernel, by decide +kernel⟩
abbrev sis_between : Stmt := top 6
theorem scis_between : FnScope ["thing", "least", "most"] ["thing", "least", "most"] (defScope sis_between) := ⟨rfl, rfl, rfl, by decide +kernel, rfl, by decide +kernel, by decide +kernel⟩
abbrev sneed_between : Stmt := top 7
theorem scneed_between : FnScope ["thing", "least", "most"] ["thing", "least", "most"] (defScope sneed_between) := ⟨rfl, rfl, rfl, by decide +kernel, rfl, by decide +kernel, by decide +kernel⟩
abbrev sis_prime : Stmt := top 12
theorem scis_prime : FnScope ["thing", "number"] ["thing"] (defScope sis_prime) := ⟨rfl, rfl, rfl, by decide +kernel, rfl, by decide +kernel, by decide +kernel⟩
abbrev sneed_prime : Stmt := top 13
theorem scneed_prime : FnScope ["thing"] ["thing"] (defScope sneed_prime) := ⟨rfl, rfl, rfl, by decide +kernel, rfl, by decide +kernel, by decide +kernel⟩
abbrev sneed_size : Stmt := top 14
theorem scneed_size : FnScope ["thing"] ["thing"] (defScope sneed_size) := ⟨rfl, rfl, rfl, by decide +kernel, rfl, by decide +kernel, by decide +kernel⟩
abbrev spower : Stmt := top 19
theorem scpower : FnScope ["base", "exponent", "found"] ["base", "exponent"] (defScope spower) := ⟨rfl, rfl, rfl, by decide +kernel, rfl, by decide +kernel, by decide +kernel⟩
abbrev stoo_few : Stmt := top 20
theorem sctoo_few : FnScope ["prime", "size", "links", "frames", "beats"] ["prime", "size", "links", "frames", "beats"] (defScope stoo_few) := ⟨rfl, rfl, rfl, by decide +kernel, rfl, by decide +kernel, by decide +kernel⟩
abbrev s_law_deck : Stmt := top 22
theorem sc_law_deck : FnScope ["_law_script", "_law_seed", "_law_cell"] ["_law_script"] (defScope s_law_deck) := ⟨rfl, rfl, rfl, by decide +kernel, rfl, by decide +kernel, by decide +kernel⟩
abbrev s_law_mixed : Stmt := top 23
theorem sc_law_mixed : FnScope ["_law_cell", "_law_turn", "_law_number"] ["_law_cell", "_law_turn"] (defScope s_law_mixed) := ⟨rfl, rfl, rfl, by decide +kernel, rfl, by decide +kernel, by decide +kernel⟩
abbrev s_law_draw : Stmt := top 24
theorem sc_law_draw : FnScope ["_law_deck_here", "_law_many", "_law_cell", "_law_found"] ["_law_deck_here", "_law_many"] (defScope s_law_draw) := ⟨rfl, rfl, rfl, by decide +kernel, rfl, by decide +kernel, by decide +kernel⟩
abbrev s_law_primes : Stmt := top 25
theorem sc_law_primes : FnScope ["_law_found", "_law_number", "_law_one"] [] (defScope s_law_primes) := ⟨rfl, rfl, rfl, by decide +kernel, rfl, by decide +kernel, by decide +kernel⟩
abbrev s_law_raised : Stmt := top 26
theorem sc_law_raised : FnScope ["_law_base", "_law_times", "_law_found", "_law_power", "_law_left", "_law_turn"] ["_law_base", "_law_times"] (defScope s_law_raised) := ⟨rfl, rfl, rfl, by decide +kernel, rfl, by decide +kernel, by decide +kernel⟩
abbrev s_law_is_within : Stmt := top 27
theorem sc_law_is_within : FnScope ["_law_thing", "_law_least", "_law_most"] ["_law_thing", "_law_least", "_law_most"] (defScope s_law_is_within) := ⟨rfl, rfl, rfl, by decide +kernel, rfl, by decide +kernel, by decide +kernel⟩
abbrev s_law_due : Stmt := top 28
theorem sc_law_due : FnScope ["_law_prime", "_law_size", "_law_links", "_law_frames", "_law_beats"] ["_law_prime", "_law_size", "_law_links", "_law_frames", "_law_beats"] (defScope s_law_due) := ⟨rfl, rfl, rfl, by decide +kernel, rfl, by decide +kernel, by decide +kernel⟩
abbrev s_law_told : Stmt := top 29
theorem sc_law_told : FnScope ["_law_prime", "_law_size", "_law_links", "_law_frames", "_law_beats", "_law_found", "_law_good", "error"] ["_law_prime", "_law_size", "_law_links", "_law_frames", "_law_beats"] (defScope s_law_told) := ⟨rfl, rfl, rfl, by decide +kernel, rfl, by decide +kernel, by decide +kernel⟩
abbrev s_law_is_right : Stmt := top 30
theorem sc_law_is_right : FnScope ["_law_prime", "_law_size", "_law_links", "_law_frames", "_law_beats", "_law_due_here"] ["_law_prime", "_law_size", "_law_links", "_law_frames", "_law_beats"] (defScope s_law_is_right) := ⟨rfl, rfl, rfl, by decide +kernel, rfl, by decide +kernel, by decide +kernel⟩
abbrev s_law_is_behind : Stmt := top 31
theorem sc_law_is_behind : FnScope ["_law_prime", "_law_size", "_law_links", "_law_late", "_law_beats", "_law_turn"] ["_law_prime", "_law_size", "_law_links", "_law_late"] (defScope s_law_is_behind) := ⟨rfl, rfl, rfl, by decide +kernel, rfl, by decide +kernel, by decide +kernel⟩
abbrev slaw : Stmt := top 32
theorem sclaw : FnScope ["_law_script", "_law_deck_here", "_law_primes_here", "_law_prime", "_law_size", "_law_links", "_law_beats", "_law_frames", "_law_told_here", "_law_odd", "_law_turn", "_law_some", "_law_k"] ["_law_script"] (defScope slaw) := ⟨rfl, rfl, rfl, by decide +kernel, rfl, by decide +kernel, by decide +kernel⟩
/-- the defs of the text -/
structure Dn (K : PySem.W.Frag) (mg : Str → Option Value) where
  f_is_integer : Addr
  fd_is_integer : FuncData
  D_is_integer : DnP K mg "is_integer" sis_integer ["thing"] f_is_integer fd_is_integer
  f_is_between : Addr
  fd_is_between : FuncData
  D_is_between : DnP K mg "is_between" sis_between ["thing", "least", "most"] f_is_between fd_is_between
  f_need_between : Addr
  fd_need_between : FuncData
  D_need_between : DnP K mg "need_between" sneed_between ["thing", "least", "most"] f_need_between fd_need_between
  f_is_prime : Addr
  fd_is_prime : FuncData
  D_is_prime : DnP K mg "is_prime" sis_prime ["thing"] f_is_prime fd_is_prime
  f_need_prime : Addr
  fd_need_prime : FuncData
  D_need_prime : DnP K mg "need_prime" sneed_prime ["thing"] f_need_prime fd_need_prime
  f_need_size : Addr
  fd_need_size : FuncData
  D_need_size : DnP K mg "need_size" sneed_size ["thing"] f_need_size fd_need_size
  f_power : Addr
  fd_power : FuncData
  D_power : DnP K mg "power" spower ["base", "exponent"] f_power fd_power
  f_too_few : Addr
  fd_too_few : FuncData
  D_too_few : DnP K mg "too_few" stoo_few ["prime", "size", "links", "frames", "beats"] f_too_few fd_too_few
  f_deck : Addr
  fd_deck : FuncData
  D_deck : DnP K mg "_law_deck" s_law_deck ["_law_script"] f_deck fd_deck
  f_mixed : Addr
  fd_mixed : FuncData
  D_mixed : DnP K mg "_law_mixed" s_law_mixed ["_law_cell", "_law_turn"] f_mixed fd_mixed
  f_draw : Addr
  fd_draw : FuncData
  D_draw : DnP K mg "_law_draw" s_law_draw ["_law_deck_here", "_law_many"] f_draw fd_draw
  f_primes : Addr
  fd_primes : FuncData
  D_primes : DnP K mg "_law_primes" s_law_primes [] f_primes fd_primes
  f_raised : Addr
  fd_raised : FuncData
  D_raised : DnP K mg "_law_raised" s_law_raised ["_law_base", "_law_times"] f_raised fd_raised
  f_is_within : Addr
  fd_is_within : FuncData
  D_is_within : DnP K mg "_law_is_within" s_law_is_within ["_law_thing", "_law_least", "_law_most"] f_is_within fd_is_within
  f_due : Addr
  fd_due : FuncData
  D_due : DnP K mg "_law_due" s_law_due ["_law_prime", "_law_size", "_law_links", "_law_frames", "_law_beats"] f_due fd_due
  f_told : Addr
  fd_told : FuncData
  D_told : DnP K mg "_law_told" s_law_told ["_law_prime", "_law_size", "_law_links", "_law_frames", "_law_beats"] f_told fd_told
  f_is_right : Addr
  fd_is_right : FuncData
  D_is_right : DnP K mg "_law_is_right" s_law_is_right ["_law_prime", "_law_size", "_law_links", "_law_frames", "_law_beats"] f_is_right fd_is_right
  f_is_behind : Addr
  fd_is_behind : FuncData
  D_is_behind : DnP K mg "_law_is_behind" s_law_is_behind ["_law_prime", "_law_size", "_law_links", "_law_late"] f_is_behind fd_is_behind
  f_law : Addr
  fd_law : FuncData
  D_law : DnP K mg "law" slaw ["_law_script"] f_law fd_law
end K67
namespace K67
open PySem PySem.Spec PyProof.Rows L2 Kv
/-! ### the deck: _law_deck, _law_mixed, _law_draw -/
def Zd (c : Addr) (xs : List V) : Prop := ∃ i d s t : Int, 0 ≤ i ∧ 0 ≤ d ∧ xs = five c i d s t
/-- the deck at a -/
def Deck (H : Hp) (a : Addr) : Prop := ∃ (c : Addr) (cells : List Int), H a = some (drz a (Zd c)) ∧ H c = some (.lst (cells.map V.int))
theorem Deck.keep {H H2 : Hp} {a : Addr} (k : Same H H2) (h : Deck H a) : Deck H2 a := by
  obtain ⟨c, cells, h1, h2⟩ := h
  exact ⟨c, cells, k _ _ h1, k _ _ h2⟩
def spMixed : Sp := fun vs H Q _ => ∃ c t : Int, vs = [.int c, .int t] ∧ ∀ r : Int, 0 ≤ r → Q (.int r) H
def spDrawC : Sp := fun vs H Q _ => ∃ (a c : Addr) (i d s t m : Int) (cells : List Int), vs = [.ref a, .int m] ∧ 0 < m ∧ m < 1073741824 ∧ 0 ≤ i ∧ 0 ≤ d ∧ H a = some (.lst (five c i d s t)) ∧ H c = some (.lst (cells.map V.int)) ∧
  ∀ r i2 d2 s2 t2, 0 ≤ r → r < m → 0 ≤ i2 → 0 ≤ d2 → Q (.int r) (upd H a (.lst (five c i2 d2 s2 t2)))
/-- draw(deck, m): some number below m -/
def spDraw : Sp := fun vs H Q _ => ∃ (a : Addr) (m : Int), vs = [.ref a, .int m] ∧ 0 < m ∧ m < 1073741824 ∧ Deck H a ∧ ∀ r : Nat, (r : Int) < m → Q (.int r) H
def spDeckC (K : PySem.W.Frag) : Sp := fun vs H Q _ => ∃ (a : Addr) (ns : List Int), vs = [.ref a] ∧ SqL K H a (ns.map V.int) ∧ ns.length ≤ 63 ∧ ∀ p c sd (cells : List Int) H2, H p = none → c ≠ p → Same H H2 → H2 p = some (.lst (five c 0 0 0 sd)) → H2 c = some (.lst (cells.map V.int)) → Q (.ref p) H2
def spDeck (K : PySem.W.Frag) : Sp := fun vs H Q _ => ∃ (a : Addr) (ns : List Int), vs = [.ref a] ∧ SqL K H a (ns.map V.int) ∧ ns.length ≤ 63 ∧ ∀ p H2, H p = none → Same H H2 → Deck H2 p → Q (.ref p) H2
section
variable {P : Program} {w : World} {K : PySem.W.Frag} {mg : Str → Option Value} {base : Heap}
theorem rd5 {a c : Addr} {i d s t j : Int} {v : V} {σ : L2.St} {H : Hp} {Q : VK} (h0 : σ[0]? = some (some (.ref a))) (hA : H a = some (.lst (five c i d s t))) (hj : atI (five c i d s t) j = some v) (q : Q v H) : tOp (rIxL K) (tVar 0) (tC (.int j)) σ H Q :=
  ⟨_, h0, a, _, j, v, rfl, rfl, SqL.of hA, hj, q⟩
theorem wr5 {a c : Addr} {i d s t : Int} {v : V} {σ : L2.St} {H : Hp} {Q : L2.St → Hp → Prop} (j : Nat) (h0 : σ[0]? = some (some (.ref a))) (hA : H a = some (.lst (five c i d s t))) (hj : j < 5) (q : Q σ (upd H a (.lst ((five c i d s t).set j v)))) : gSub (tVar 0) (tC (.int (j : Int))) rSetL v σ H Q :=
  ⟨_, h0, a, _, (j : Int), j, rfl, rfl, hA, by
    show ixN 5 (j : Int) = some j
    unfold ixN
    rw [if_pos (by omega), if_pos (by omega)]
    simp, q⟩
theorem ok_deckC (d : Dn K mg) (B : Bn mg) : FnOk P w K mg base CX0 1 d.f_deck d.fd_deck ["_law_script"] (spDeckC K) := by
  refine d.D_deck.F.ok sc_law_deck (fun vs H Q E h => ?_) (fun cdv A outer s H vs Q E hr h => ?_)
  · obtain ⟨a, ns, rfl, _⟩ := h
    rfl
  · obtain ⟨a, ns, rfl, hS, hlen, k⟩ := h
    refine ⟨_, PSs.nox ((pss_cons (ps_set (i := 1) sc_law_deck.nd rfl (Or.inl rfl) pe_int)
      (pss_cons (ps_for PassesOwn.never rfl (pi_list (pv 0)) (pg_name (i := 2) sc_law_deck.nd rfl (Or.inl rfl))
      (pss_one (ps_set (i := 1) sc_law_deck.nd rfl (Or.inl rfl) (pe_op op_mod (pe_callTy call_int1 (by rfl) B.int boot_int (pa_cons (pe_op op_add (pe_op op_mul (pv 1) pe_int) (pv 2)) pa_nil)) pe_int))))
      (pss_one (ps_ret (pe_lst (pa_cons (pe_callTy call_list_of (by rfl) B.lst boot_list (pa_cons (pv 0) pa_nil)) (pa_cons pe_int (pa_cons pe_int (pa_cons pe_int (pa_cons (pv 1) pa_nil))))))))))), ?_⟩
    refine ⟨_, rfl, a, rfl, ⟨_, hS⟩, for_list (K := K) (a := a) (xs := ns.map V.int) (fun i σ2 H2 => ∃ (sd : Int) (v2 : Option V), σ2 = [some (.ref a), some (.int sd), v2] ∧ H2 = H) ⟨1, _, rfl, rfl⟩ (fun i σ2 H2 _ h2 => by obtain ⟨_, _, _, rfl⟩ := h2; exact hS) ?_ ?_⟩
    · rintro i x σ2 H2 hx ⟨sd, v2, rfl, rfl⟩
      obtain ⟨z, _, rfl⟩ := List.mem_map.mp (List.mem_of_getElem? hx)
      exact ⟨_, rfl, sd, 1000003, rfl, rfl, Or.inr (by decide), _, rfl, _, z, rfl, rfl, Or.inl ⟨_, rfl, _, 998244353, rfl, rfl, (by show (0 : Int) < 998244353; decide), _, _, rfl, rfl⟩⟩
    · rintro σ2 H2 ⟨sd, v2, rfl, rfl⟩
      refine ⟨_, rfl, a, _, rfl, Or.inl hS, fun C nC => ⟨_, rfl, (by show 5 ≤ sizeLine; decide), fun q nq => ?_⟩⟩
      have sC := sameNew (o := HO.lst (ns.map V.int)) nC
      have nqC : C ≠ q := ne_of_none upd_same nq
      exact k q C sd ns _ (sC.free nq) nqC (sC.trans (sameNew nq)) upd_same (by rw [upd_ne nqC, upd_same])
theorem ok_deck (d : Dn K mg) (B : Bn mg) : FnOk P w K mg base CX0 1 d.f_deck d.fd_deck ["_law_script"] (spDeck K) := by
  refine shutZNew (ok_deckC d B) (fun vs H Q E h => ?_) (fun vs H Q E h => ?_)
  · obtain ⟨a, ns, rfl, _⟩ := h
    rfl
  · obtain ⟨a, ns, rfl, hS, hlen, k⟩ := h
    refine ⟨a, ns, rfl, hS, hlen, fun p c sd cells H2 np nc s2 hp hc => ⟨p, Zd c, _, ⟨0, 0, 0, sd, Int.le_refl _, Int.le_refl _, rfl⟩, hp, k p _ np (samePut s2 np) ⟨c, cells, upd_same, ?_⟩⟩⟩
    rw [upd_ne nc]
    exact hc
theorem ok_mixed (d : Dn K mg) (B : Bn mg) : FnOk P w K mg base CX0 1 d.f_mixed d.fd_mixed ["_law_cell", "_law_turn"] spMixed := by
  refine d.D_mixed.F.ok sc_law_mixed (fun vs H Q E h => ?_) (fun cdv A outer s H vs Q E hr h => ?_)
  · obtain ⟨c, t, rfl, _⟩ := h
    rfl
  · obtain ⟨c, t, rfl, k⟩ := h
    refine ⟨_, PSs.nox ((pss_cons (ps_set (i := 2) sc_law_mixed.nd rfl (Or.inl rfl) (pe_op op_mod (pe_op op_mul (pe_callTy call_int1 (by rfl) B.int boot_int (pa_cons (pe_op op_add (pe_op op_add (pv 0) (pe_op op_mul pe_int (pv 1))) pe_int) pa_nil)) pe_int) pe_int))
      (pss_cons (ps_set (i := 2) sc_law_mixed.nd rfl (Or.inl rfl) (pe_op op_mod (pe_callTy call_int1 (by rfl) B.int boot_int (pa_cons (pe_op op_mul (pv 2) (pe_op op_add (pe_op op_fdiv (pv 2) pe_int) pe_int)) pa_nil)) pe_int))
      (pss_cons (ps_set (i := 2) sc_law_mixed.nd rfl (Or.inl rfl) (pe_op op_mod (pe_callTy call_int1 (by rfl) B.int boot_int (pa_cons (pe_op op_mul (pv 2) (pe_op op_add (pe_op op_add (pe_op op_fdiv (pv 2) pe_int) pe_int) (pv 1))) pa_nil)) pe_int))
      (pss_one (ps_ret (pe_op op_fdiv (pv 2) pe_int))))))), ?_⟩
    have small : ∀ z : Int, 0 ≤ z % 2147483647 ∧ z % 2147483647 < 2147483647 := fun z => ⟨Int.emod_nonneg _ (by decide), Int.emod_lt_of_pos _ (by decide)⟩
    refine ⟨_, rfl, _, rfl, 7919, t, rfl, rfl, Or.inl (by decide), c, _, rfl, rfl, _, 1, rfl, rfl, Or.inl ⟨_, rfl, _, 48271, rfl, rfl, Or.inr (by decide), _, 2147483647, rfl, rfl, (by show (0 : Int) < 2147483647; decide), ?_⟩⟩
    have z1 := small ((c + 7919 * t + 1) * 48271)
    refine ⟨_, rfl, _, rfl, _, 1009, rfl, rfl, ⟨by decide, by decide⟩, _, 69621, rfl, rfl, _, _, rfl, rfl, Or.inl (by omega), Or.inl ⟨_, rfl, _, 2147483647, rfl, rfl, (by show (0 : Int) < 2147483647; decide), ?_⟩⟩
    have z2 := small ((c + 7919 * t + 1) * 48271 % 2147483647 * ((c + 7919 * t + 1) * 48271 % 2147483647 / 1009 + 69621))
    refine ⟨_, rfl, _, rfl, _, 2003, rfl, rfl, ⟨by decide, by decide⟩, _, 40692, rfl, rfl, _, rfl, _, t, rfl, rfl, _, _, rfl, rfl, Or.inl (by omega), Or.inl ⟨_, rfl, _, 2147483399, rfl, rfl, (by show (0 : Int) < 2147483399; decide), ?_⟩⟩
    refine ⟨_, rfl, _, 16, rfl, rfl, ⟨by decide, by decide⟩, k _ ?_⟩
    exact Int.ediv_nonneg (Int.emod_nonneg _ (by decide)) (by decide)
theorem ok_drawC (d : Dn K mg) (B : Bn mg) : FnOk P w K mg base CX0 2 d.f_draw d.fd_draw ["_law_deck_here", "_law_many"] spDrawC := by
  have G_mixed := ok_mixed (P := P) (w := w) (base := base) d B
  refine d.D_draw.F.ok sc_law_draw (fun vs H Q E h => ?_) (fun cdv A outer s H vs Q E hr h => ?_)
  · obtain ⟨a, c, i, dd, t, u, m, cells, rfl, _⟩ := h
    rfl
  · obtain ⟨a, c, i, dd, t, u, m, cells, rfl, m0, m1, i0, d0, ha, hc, k⟩ := h
    have nca : c ≠ a := ne_of hc ha (fun z => by
      cases cells with
      | nil => cases z
      | cons y ys => cases z)
    refine ⟨_, PSs.nox ((pss_cons (ps_asg (pe_op op_add (pe_ix ix_list (pv 0) pe_int (fun _ _ => rfl)) pe_int) (pg_sub (pv 0) pe_int set_list))
      (C8.pss_cut (ps_if (PW.pt (pw_and (pt_cmpR op_eq (pe_ix ix_list (pv 0) pe_int (fun _ _ => rfl)) pe_int (nomark _)) (pw_and1 (pt_cmpR op_lt (pe_ix ix_list (pv 0) pe_int (fun _ _ => rfl)) (pe_callB call_len_seq (by rfl) B.len PySem.boot_len (pa_cons (pe_ix ix_list (pv 0) pe_int (fun _ _ => rfl)) pa_nil)) (nomark _)))))
      (pss_cons (ps_set (i := 2) sc_law_draw.nd rfl (Or.inl rfl) (pe_ix ix_list (pe_ix ix_list (pv 0) pe_int (fun _ _ => rfl)) (pe_ix ix_list (pv 0) pe_int (fun _ _ => rfl)) (fun _ _ => rfl)))
      (pss_cons (ps_asg (pe_op op_add (pe_ix ix_list (pv 0) pe_int (fun _ _ => rfl)) pe_int) (pg_sub (pv 0) pe_int set_list))
      (pss_cons (ps_if (pt_chain op_lt op_lt (pe_un un_neg (pe_op op_pow pe_int pe_int)) (pv 2) (pe_op op_pow pe_int pe_int))
      (pss_one (ps_ret (pe_op op_mod (pe_callTy call_int1 (by rfl) B.int boot_int (pa_cons (pe_call G_mixed (hr.mono (by decide)) (by rfl) d.D_mixed.g d.D_mixed.F.kp d.D_mixed.b .nil pass0 (pa_cons (pv 2) (pa_cons (pe_ix ix_list (pv 0) pe_int (fun _ _ => rfl)) pa_nil))) pa_nil)) (pv 1)))) pss_nil)
      (pss_one (ps_asg (pe_callB call_abs (by rfl) B.abs boot_abs (pa_cons (pv 2) pa_nil)) (pg_sub (pv 0) pe_int set_list)))))) pss_nil) (C8.pss_cut (ps_if (pt_cmpR op_gt (pe_ix ix_list (pv 0) pe_int (fun _ _ => rfl)) pe_int (nomark _))
      (pss_cons (ps_set (i := 3) sc_law_draw.nd rfl (Or.inl rfl) (pe_op op_mod (pe_callTy call_int1 (by rfl) B.int boot_int (pa_cons (pe_ix ix_list (pv 0) pe_int (fun _ _ => rfl)) pa_nil)) (pv 1)))
      (pss_cons (ps_asg (pe_op op_fdivN (pe_ix ix_list (pv 0) pe_int (fun _ _ => rfl)) (pv 1)) (pg_sub (pv 0) pe_int set_list))
      (pss_one (ps_ret (pv 3))))) pss_nil) (pss_one (ps_ret (pe_op op_mod (pe_callTy call_int1 (by rfl) B.int boot_int (pa_cons (pe_call G_mixed (hr.mono (by decide)) (by rfl) d.D_mixed.g d.D_mixed.F.kp d.D_mixed.b .nil pass0 (pa_cons (pe_ix ix_list (pv 0) pe_int (fun _ _ => rfl)) (pa_cons (pe_ix ix_list (pv 0) pe_int (fun _ _ => rfl)) pa_nil))) pa_nil)) (pv 1)))))))), ?_⟩
    refine rd5 rfl ha rfl ⟨t, 1, rfl, rfl, ?_⟩
    refine wr5 3 rfl ha (by decide) ?_
    refine ⟨fun σ2 H2 => ∃ (i2 d2 s2 : Int) (v2 v3 : Option V), σ2 = [some (.ref a), some (.int m), v2, v3] ∧ 0 ≤ i2 ∧ 0 ≤ d2 ∧ H2 = upd H a (.lst (five c i2 d2 s2 u)), ?_, ?_⟩
    · refine rd5 (i := i) (d := dd) (s := t + 1) (t := u) (c := c) rfl upd_same rfl ⟨rfl, _, rfl, ?_⟩
      refine ite2 (fun hz => ?_) (fun _ => iteF ⟨i, dd, t + 1, _, _, rfl, i0, d0, rfl⟩)
      refine rd5 (i := i) (d := dd) (s := t + 1) (t := u) (c := c) rfl upd_same rfl ?_
      refine rd5 (i := i) (d := dd) (s := t + 1) (t := u) (c := c) rfl upd_same rfl ?_
      have hc2 : upd H a (.lst (five c i dd (t + 1) u)) c = some (.lst (cells.map V.int)) := by rw [upd_ne nca]; exact hc
      refine ⟨c, _, rfl, Or.inl (SqL.of hc2), i, _, rfl, rfl, _, rfl, ?_⟩
      refine ite2 (fun hlt => ?_) (fun _ => ⟨i, dd, t + 1, _, _, rfl, i0, d0, rfl⟩)
      have hlt2 : i < cells.length := by
        have h2 := of_decide_eq_true hlt
        rw [List.length_map] at h2
        exact h2
      obtain ⟨cell, hcell⟩ : ∃ cell, cells[i.toNat]? = some cell := ⟨cells[i.toNat]'(by omega), List.getElem?_eq_getElem (by omega)⟩
      have hat : atI (cells.map V.int) i = some (.int cell) := by
        have e : i = (i.toNat : Int) := by omega
        rw [e]
        exact atI_nat (by rw [List.getElem?_map, hcell]; rfl)
      refine rd5 (i := i) (d := dd) (s := t + 1) (t := u) (c := c) rfl upd_same rfl ?_
      refine rd5 (i := i) (d := dd) (s := t + 1) (t := u) (c := c) rfl upd_same rfl ?_
      refine ⟨c, _, _, _, rfl, rfl, SqL.of hc2, hat, ?_⟩
      refine rd5 (i := i) (d := dd) (s := t + 1) (t := u) (c := c) rfl upd_same rfl ⟨i, 1, rfl, rfl, ?_⟩
      refine wr5 (i := i) (d := dd) (s := t + 1) (t := u) (c := c) 1 rfl upd_same (by decide) ?_
      rw [upd_upd]
      refine ⟨10, 18, rfl, rfl, ⟨by decide, by decide, by decide⟩, _, rfl, _, rfl, _, _, rfl, rfl, _, rfl, ?_⟩
      have c0 : (0 : Int) ≤ (if cell < 0 then -cell else cell) := by split <;> omega
      refine ite2 (fun _ => ⟨10, 18, rfl, rfl, ⟨by decide, by decide, by decide⟩, _, _, rfl, rfl, _, rfl, ite2 (fun _ => ?_) (fun _ => ?_)⟩) (fun _ => ⟨_, rfl, iteF ?_⟩)
      · refine ⟨_, rfl, ?_⟩
        refine rd5 (i := i + 1) (d := dd) (s := t + 1) (t := u) (c := c) rfl upd_same rfl ⟨cell, t + 1, rfl, fun r r0 => Or.inl ⟨r, rfl, _, rfl, r, m, rfl, rfl, m0, ?_⟩⟩
        exact k (r % m) (i + 1) dd (t + 1) u (Int.emod_nonneg _ (by omega)) (Int.emod_lt_of_pos _ m0) (by omega) d0
      · refine ⟨_, rfl, cell, rfl, ?_⟩
        refine wr5 (i := i + 1) (d := dd) (s := t + 1) (t := u) (c := c) 2 rfl upd_same (by decide) ?_
        rw [upd_upd]
        exact ⟨i + 1, _, t + 1, _, _, rfl, by omega, c0, rfl⟩
      · refine ⟨_, rfl, cell, rfl, ?_⟩
        refine wr5 (i := i + 1) (d := dd) (s := t + 1) (t := u) (c := c) 2 rfl upd_same (by decide) ?_
        rw [upd_upd]
        exact ⟨i + 1, _, t + 1, _, _, rfl, by omega, c0, rfl⟩
    · rintro σ2 H2 ⟨i2, d2, s2, v2, v3, rfl, hi2, hd2, rfl⟩
      refine ⟨fun σ3 H3 => ∃ v3 : Option V, σ3 = [some (.ref a), some (.int m), v2, v3] ∧ H3 = upd H a (.lst (five c i2 d2 s2 u)), ?_, ?_⟩
      · refine rd5 (i := i2) (d := d2) (s := s2) (t := u) (c := c) rfl upd_same rfl ⟨_, _, rfl, rfl, _, rfl, ?_⟩
        refine ite2 (fun _ => ?_) (fun _ => ⟨_, rfl, rfl⟩)
        refine rd5 (i := i2) (d := d2) (s := s2) (t := u) (c := c) rfl upd_same rfl (Or.inl ⟨d2, rfl, _, rfl, d2, m, rfl, rfl, m0, ?_⟩)
        refine rd5 (i := i2) (d := d2) (s := s2) (t := u) (c := c) rfl upd_same rfl ⟨_, rfl, d2, m, rfl, rfl, ⟨by omega, by omega⟩, ?_⟩
        refine wr5 (i := i2) (d := d2) (s := s2) (t := u) (c := c) 2 rfl upd_same (by decide) ⟨_, rfl, ?_⟩
        rw [upd_upd]
        exact k (d2 % m) i2 _ s2 u (Int.emod_nonneg _ (by omega)) (Int.emod_lt_of_pos _ m0) hi2 (Int.fdiv_nonneg hd2 (by omega))
      · rintro σ3 H3 ⟨v3, rfl, rfl⟩
        refine rd5 (i := i2) (d := d2) (s := s2) (t := u) (c := c) rfl upd_same rfl ?_
        refine rd5 (i := i2) (d := d2) (s := s2) (t := u) (c := c) rfl upd_same rfl ⟨u, s2, rfl, fun r r0 => Or.inl ⟨r, rfl, _, rfl, r, m, rfl, rfl, m0, ?_⟩⟩
        exact k (r % m) i2 d2 s2 u (Int.emod_nonneg _ (by omega)) (Int.emod_lt_of_pos _ m0) hi2 hd2
theorem ok_draw (d : Dn K mg) (B : Bn mg) : FnOk P w K mg base CX0 2 d.f_draw d.fd_draw ["_law_deck_here", "_law_many"] spDraw := by
  refine shutZ (ok_drawC d B) (fun vs H Q E h => ?_) (fun vs H Q E h => ?_)
  · obtain ⟨a, m, rfl, _⟩ := h
    rfl
  · obtain ⟨a, m, rfl, m0, m1, ⟨c, cells, ha, hc⟩, k⟩ := h
    have nca : c ≠ a := ne_of hc ha (Ne.symm drz_lst)
    refine ⟨a, Zd c, ha, ?_⟩
    rintro xs ⟨i, dd, t, u, i0, d0, rfl⟩
    refine ⟨a, c, i, dd, t, u, m, cells, rfl, m0, m1, i0, d0, upd_same, by rw [upd_ne nca]; exact hc, fun r i2 d2 s2 t2 r0 r1 hi2 hd2 => ⟨H, _, ⟨i2, d2, s2, t2, hi2, hd2, rfl⟩, by rw [upd_upd], ha, ?_⟩⟩
    have e : r = (r.toNat : Int) := by omega
    rw [e]
    exact k r.toNat (by omega)
end
end K67
namespace K67
open PySem PySem.Spec PyProof.Rows L2 Kv
/-! ### _law_is_int -/
def spIsInt : Sp := fun vs H Q _ => ∃ (x : V) (d : PyData) (lo hi : Int), vs = [x, .int lo, .int hi] ∧ Th H x d ∧ Q (.bl (isBt d lo hi)) H
section
variable {P : Program} {w : World} {K : PySem.W.Frag} {mg : Str → Option Value} {base : Heap}
end
end K67
namespace K67
open PySem PySem.Spec PyProof.Rows L2 Kv
/-! ### judges: _law_is_link, _law_wrong, is_integer, is_between, is_unlike_pair -/
def isI : PyData → Bool
  | .int _ => true
  | _ => false
def spIsInteger : Sp := fun vs H Q _ => ∃ (x : V) (d : PyData), vs = [x] ∧ Th H x d ∧ Q (.bl (isI d)) H
def spIsPr : Sp := fun vs H Q _ => ∃ (x : V) (d : PyData) (m : Int), vs = [x, .int m] ∧ Th H x d ∧ Q (.bl (isPr d m)) H
def spIsLink : Sp := fun vs H Q _ => ∃ (x : V) (d : PyData) (m : Int), vs = [.int m, x] ∧ Th H x d ∧ ∀ H2, Same H H2 → Q (.bl (isPr d m)) H2
def spWrong : Sp := fun vs H Q _ => ∃ (x y z : V) (dx dy dz : PyData), vs = [x, y, z] ∧ Th H x dx ∧ Th H y dy ∧ Th H z dz ∧ ∀ H2, Same H H2 → Q (wrongV dx dy dz) H2
section
variable {P : Program} {w : World} {K : PySem.W.Frag} {mg : Str → Option Value} {base : Heap}
theorem ok_is_integer (d : Dn K mg) (B : Bn mg) : FnOk P w K mg base CX0 1 d.f_is_integer d.fd_is_integer ["thing"] spIsInteger := by
  refine d.D_is_integer.F.ok scis_integer (fun vs H Q E h => ?_) (fun cdv A outer s H vs Q E hr h => ?_)
  · obtain ⟨x, dd, rfl, _⟩ := h
    rfl
  · obtain ⟨x, dd, rfl, hx, k⟩ := h
    refine ⟨_, PSs.nox ((pss_one (ps_ret (pe_and (pe_callB call_isi (by rfl) B.isi boot_isinstance (pa_cons (pv 0) (pa_cons (pe_bltn (v := .ty "int") (by rfl) B.int (by decide +kernel) rfl) pa_nil))) (pe_one (pe_not (pe_callB call_isi (by rfl) B.isi boot_isinstance (pa_cons (pv 0) (pa_cons (pe_bltn (v := .ty "bool") (by rfl) B.bool (by decide +kernel) rfl) pa_nil))))))))), ?_⟩
    refine ⟨_, rfl, x, _, _, _, _, rfl, .ty _, hx.tyx, kit_int dd, _, rfl, ?_⟩
    cases hx with
    | non => exact iteF k
    | str y => exact iteF k
    | lst h1 h2 => exact iteF k
    | tup h1 h2 => exact iteF k
    | dic h1 => exact iteF k
    | bl b => exact iteT ⟨_, rfl, _, _, _, _, _, rfl, .ty _, (Th.bl b).tyx, kit_bool (.bool b), _, rfl, k⟩
    | int i => exact iteT ⟨_, rfl, _, _, _, _, _, rfl, .ty _, (Th.int i).tyx, kit_bool (.int i), _, rfl, k⟩
theorem ok_is_between (d : Dn K mg) (B : Bn mg) : FnOk P w K mg base CX0 2 d.f_is_between d.fd_is_between ["thing", "least", "most"] spIsInt := by
  have G_is_integer := ok_is_integer (P := P) (w := w) (base := base) d B
  refine d.D_is_between.F.ok scis_between (fun vs H Q E h => ?_) (fun cdv A outer s H vs Q E hr h => ?_)
  · obtain ⟨x, dd, lo, hi, rfl, _⟩ := h
    rfl
  · obtain ⟨x, dd, lo, hi, rfl, hx, k⟩ := h
    refine ⟨_, PSs.nox ((pss_one (ps_ret (pe_and (pe_call G_is_integer (hr.mono (by decide)) (by rfl) d.D_is_integer.g d.D_is_integer.F.kp d.D_is_integer.b .nil pass0 (pa_cons (pv 0) pa_nil)) (pe_and (pe_cmpR op_le (pv 1) (pv 0) (nomark _)) (pe_one (pe_cmpR op_le (pv 0) (pv 2) (nomark _)))))))), ?_⟩
    refine ⟨_, rfl, x, dd, rfl, hx, _, rfl, ?_⟩
    cases hx with
    | non => exact iteF k
    | str y => exact iteF k
    | lst h1 h2 => exact iteF k
    | tup h1 h2 => exact iteF k
    | dic h1 => exact iteF k
    | bl b => exact iteF k
    | int i =>
      refine iteT ⟨_, rfl, _, rfl, lo, i, rfl, rfl, _, rfl, ?_⟩
      have e : isBt (.int i) lo hi = (decide (lo ≤ i) && decide (i ≤ hi)) := rfl
      rw [e] at k
      cases hd : decide (lo ≤ i) with
      | false =>
        rw [hd] at k
        exact iteF k
      | true =>
        rw [hd] at k
        exact iteT ⟨_, rfl, _, rfl, i, hi, rfl, rfl, k⟩
end
end K67
namespace K67
open PySem PySem.Spec PyProof.Rows L2 Kv
/-! ### is_within; need_between, is_prime, need_prime, need_size, power, too_few; primes, raised, due -/
/-- a class over ValueError, without fields -/
structure XcK (K : PySem.W.Frag) (mg : Str → Option Value) (x : Str) : Prop where
  ex : PySem.W.excIn K (He.ga K x) He.veBase "ValueError.__new__" = true
  g : mg x = some (.ref (He.ga K x))
  k : PySem.W.keepIn K (.ref (He.ga K x)) = true
  s : PySem.W.subIn K (.ref (He.ga K x)) (.type "BaseException") = some true
  t : PySem.W.typeIn K (.ref (He.ga K x)) = some (.type "type")
/-- the top's ints -/
structure Nm (mg : Str → Option Value) : Prop where
  p5 : ∃ t, mg "LEAST_PRIME" = some (.int 5 t)
  p251 : ∃ t, mg "GREATEST_PRIME" = some (.int 251 t)
  s8 : ∃ t, mg "MOST_SIZE" = some (.int 8 t)
  l60 : ∃ t, mg "MOST_COUNTED_LINKS" = some (.int 60 t)
  f400 : ∃ t, mg "MOST_COUNTED_FRAMES" = some (.int 400 t)
  b400 : ∃ t, mg "MOST_COUNTED_BEATS" = some (.int 400 t)
def isPrimeD (d : PyData) : Bool := match d with
  | .int p => (decide (5 ≤ p) && decide (p ≤ 251)) && allPrime p
  | _ => false
/-- whether too few, of ints that are let -/
def lessI (p s l f b : Int) : Bool := decide ((p.toNat + 1) ^ (l * b).toNat < p.toNat ^ (s * f).toNat)
def numsOk (ds dl df db : PyData) : Bool := isBt ds 1 8 && (isBt dl 0 60 && (isBt df 0 400 && isBt db 0 400))
def dueD (dp ds dl df db : PyData) : V := if isPrimeD dp = true then (if numsOk ds dl df db = true then (match dp, ds, dl, df, db with
    | .int p, .int s, .int l, .int f, .int b => .bl (lessI p s l f b)
    | _, _, _, _, _ => .non) else .str "number") else .str "prime"
def spNeedBetween (K : PySem.W.Frag) : Sp := fun vs H Q E => ∃ (x : V) (d : PyData) (lo hi : Int), vs = [x, .int lo, .int hi] ∧ Th H x d ∧ (isBt d lo hi = true → Q .non H) ∧ (isBt d lo hi = false → E (.ref (He.ga K "NoNumber")) none H)
def spIsPrime : Sp := fun vs H Q _ => ∃ (x : V) (d : PyData), vs = [x] ∧ Th H x d ∧ ∀ H2, Same H H2 → Q (.bl (isPrimeD d)) H2
def spNeedPrime (K : PySem.W.Frag) : Sp := fun vs H Q E => ∃ (x : V) (d : PyData), vs = [x] ∧ Th H x d ∧ (isPrimeD d = true → ∀ H2, Same H H2 → Q .non H2) ∧ (isPrimeD d = false → ∀ H2, Same H H2 → E (.ref (He.ga K "NoPrime")) none H2)
def spNeedSize (K : PySem.W.Frag) : Sp := fun vs H Q E => ∃ (x : V) (d : PyData), vs = [x] ∧ Th H x d ∧ (isBt d 1 8 = true → Q .non H) ∧ (isBt d 1 8 = false → E (.ref (He.ga K "NoNumber")) none H)
def spPower : Sp := fun vs H Q _ => ∃ (B E : Nat), vs = [.int B, .int E] ∧ 1 ≤ B ∧ B ≤ 256 ∧ E ≤ 100000 ∧ Q (.int ((B ^ E : Nat) : Int)) H
def spTooFew (K : PySem.W.Frag) : Sp := fun vs H Q E => ∃ (x1 x2 x3 x4 x5 : V) (d1 d2 d3 d4 d5 : PyData), vs = [x1, x2, x3, x4, x5] ∧ Th H x1 d1 ∧ Th H x2 d2 ∧ Th H x3 d3 ∧ Th H x4 d4 ∧ Th H x5 d5 ∧
  (dueD d1 d2 d3 d4 d5 = .str "prime" → ∀ H2, Same H H2 → E (.ref (He.ga K "NoPrime")) none H2) ∧ (dueD d1 d2 d3 d4 d5 = .str "number" → ∀ H2, Same H H2 → E (.ref (He.ga K "NoNumber")) none H2) ∧ ∀ b, dueD d1 d2 d3 d4 d5 = .bl b → ∀ H2, Same H H2 → Q (.bl b) H2
def spPrimes : Sp := fun vs H Q _ => vs = [] ∧ ∀ p H2, Same H H2 → H2 p = some (.lst (primesL.map V.int)) → Q (.ref p) H2
def spDue : Sp := fun vs H Q _ => ∃ (x1 x2 x3 x4 x5 : V) (d1 d2 d3 d4 d5 : PyData), vs = [x1, x2, x3, x4, x5] ∧ Th H x1 d1 ∧ Th H x2 d2 ∧ Th H x3 d3 ∧ Th H x4 d4 ∧ Th H x5 d5 ∧ ∀ H2, Same H H2 → Q (dueD d1 d2 d3 d4 d5) H2
theorem isPrimeD_int {d : PyData} (h : isPrimeD d = true) : ∃ p, d = .int p ∧ 5 ≤ p ∧ p ≤ 251 ∧ allPrime p = true := by
  cases d with
  | int p =>
    have e : ((decide (5 ≤ p) && decide (p ≤ 251)) && allPrime p) = true := h
    rw [Bool.and_eq_true, Bool.and_eq_true, decide_eq_true_eq, decide_eq_true_eq] at e
    exact ⟨p, rfl, e.1.1, e.1.2, e.2⟩
  | _ => cases h
theorem numsOk_int {ds dl df db : PyData} (h : numsOk ds dl df db = true) : ∃ s l f b, ds = .int s ∧ dl = .int l ∧ df = .int f ∧ db = .int b ∧ 1 ≤ s ∧ s ≤ 8 ∧ 0 ≤ l ∧ l ≤ 60 ∧ 0 ≤ f ∧ f ≤ 400 ∧ 0 ≤ b ∧ b ≤ 400 := by
  unfold numsOk at h
  rw [Bool.and_eq_true, Bool.and_eq_true, Bool.and_eq_true] at h
  obtain ⟨h1, h2, h3, h4⟩ := h
  obtain ⟨s, rfl, a1, a2⟩ := isBt_int h1
  obtain ⟨l, rfl, b1, b2⟩ := isBt_int h2
  obtain ⟨f, rfl, c1, c2⟩ := isBt_int h3
  obtain ⟨b, rfl, e1, e2⟩ := isBt_int h4
  exact ⟨s, l, f, b, rfl, rfl, rfl, rfl, a1, a2, b1, b2, c1, c2, e1, e2⟩
theorem due_prime {d1 d2 d3 d4 d5 : PyData} (h : isPrimeD d1 = false) : dueD d1 d2 d3 d4 d5 = .str "prime" := by
  unfold dueD
  rw [h]
  rfl
theorem due_number {d1 d2 d3 d4 d5 : PyData} (h : isPrimeD d1 = true) (h2 : numsOk d2 d3 d4 d5 = false) : dueD d1 d2 d3 d4 d5 = .str "number" := by
  unfold dueD
  rw [h, h2]
  rfl
theorem due_bl {p s l f b : Int} (h : isPrimeD (.int p) = true) (h2 : numsOk (.int s) (.int l) (.int f) (.int b) = true) : dueD (.int p) (.int s) (.int l) (.int f) (.int b) = .bl (lessI p s l f b) := by
  unfold dueD
  rw [h, h2]
  rfl
section
variable {P : Program} {w : World} {K : PySem.W.Frag} {mg : Str → Option Value} {base : Heap}
theorem ok_is_within (d : Dn K mg) (B : Bn mg) : FnOk P w K mg base CX0 1 d.f_is_within d.fd_is_within ["_law_thing", "_law_least", "_law_most"] spIsInt := by
  refine d.D_is_within.F.ok sc_law_is_within (fun vs H Q E h => ?_) (fun cdv A outer s H vs Q E hr h => ?_)
  · obtain ⟨x, dd, lo, hi, rfl, _⟩ := h
    rfl
  · obtain ⟨x, dd, lo, hi, rfl, hx, k⟩ := h
    refine ⟨_, PSs.nox ((pss_one (ps_ret (pe_and (pe_callB call_isi (by rfl) B.isi boot_isinstance (pa_cons (pv 0) (pa_cons (pe_bltn (v := .ty "int") (by rfl) B.int (by decide +kernel) rfl) pa_nil))) (pe_and (pe_not (pe_callB call_isi (by rfl) B.isi boot_isinstance (pa_cons (pv 0) (pa_cons (pe_bltn (v := .ty "bool") (by rfl) B.bool (by decide +kernel) rfl) pa_nil)))) (pe_one (pe_chain op_le op_le (pv 1) (pv 0) (pv 2)))))))), ?_⟩
    refine ⟨_, rfl, x, _, _, _, _, rfl, .ty _, hx.tyx, kit_int dd, _, rfl, ?_⟩
    cases hx with
    | non => exact iteF k
    | str y => exact iteF k
    | lst h1 h2 => exact iteF k
    | tup h1 h2 => exact iteF k
    | dic h1 => exact iteF k
    | bl b => exact iteT ⟨_, rfl, _, _, _, _, _, rfl, .ty _, (Th.bl b).tyx, kit_bool (.bool b), _, rfl, _, rfl, iteF k⟩
    | int i =>
      refine iteT ⟨_, rfl, _, _, _, _, _, rfl, .ty _, (Th.int i).tyx, kit_bool (.int i), _, rfl, _, rfl, iteT ?_⟩
      refine ⟨_, rfl, _, rfl, lo, i, rfl, rfl, _, rfl, ?_⟩
      have e : isBt (.int i) lo hi = (decide (lo ≤ i) && decide (i ≤ hi)) := rfl
      rw [e] at k
      cases hd : decide (lo ≤ i) with
      | false =>
        rw [hd] at k
        exact iteF k
      | true =>
        rw [hd] at k
        exact iteT ⟨_, rfl, i, hi, rfl, rfl, k⟩
theorem ok_need_between (d : Dn K mg) (B : Bn mg) (XN : XcK K mg "NoNumber") : FnOk P w K mg base (L2.CX P w) 3 d.f_need_between d.fd_need_between ["thing", "least", "most"] (spNeedBetween K) := by
  have G_is_between := ok_is_between (P := P) (w := w) (base := base) d B
  refine d.D_need_between.F.ok (CX := L2.CX P w) scneed_between (fun vs H Q E h => ?_) (fun cdv A outer s H vs Q E hr h => ?_)
  · obtain ⟨x, e, lo, hi, rfl, _⟩ := h
    rfl
  · obtain ⟨x, e, lo, hi, rfl, hx, k1, k2⟩ := h
    refine ⟨_, (pss_one (ps_if (pt_not (pt_val (pe_call G_is_between (hr.mono (by decide)) (by rfl) d.D_is_between.g d.D_is_between.F.kp d.D_is_between.b .nil pass0 (pa_cons (pv 0) (pa_cons (pv 1) (pa_cons (pv 2) pa_nil))))))
      (pss_one (ps_raise rfl (takes_of rfl rfl rfl rfl) (pmk_ret rfl (pe_exc0 PySem.F.excBase_ValueError XN.ex XN.g XN.k (by rfl))))) pss_nil)), ?_⟩
    refine ⟨_, rfl, _, rfl, _, rfl, x, e, lo, hi, rfl, hx, _, rfl, ?_⟩
    cases hb : isBt e lo hi with
    | true => exact iteF (k1 hb)
    | false =>
      refine iteT ?_
      intro ea na
      refine ⟨ea, _, rfl, upd_same, fr0_none na, raises_own XN.s XN.t, ?_⟩
      rw [delH_new na]
      exact k2 hb
theorem ok_need_size (d : Dn K mg) (B : Bn mg) (M : Nm mg) (XN : XcK K mg "NoNumber") : FnOk P w K mg base (L2.CX P w) 4 d.f_need_size d.fd_need_size ["thing"] (spNeedSize K) := by
  have G_need_between := ok_need_between (P := P) (w := w) (base := base) d B XN
  refine d.D_need_size.F.ok (CX := L2.CX P w) scneed_size (fun vs H Q E h => ?_) (fun cdv A outer s H vs Q E hr h => ?_)
  · obtain ⟨x, e, rfl, _⟩ := h
    rfl
  · obtain ⟨x, e, rfl, hx, k1, k2⟩ := h
    obtain ⟨t8, h8⟩ := M.s8
    refine ⟨_, (pss_one (ps_expr (pe_call G_need_between (hr.mono (by decide)) (by rfl) d.D_need_between.g d.D_need_between.F.kp d.D_need_between.b .nil (passes_call (takes_of rfl rfl rfl rfl) (fun _ _ _ _ h => h)) (pa_cons (pv 0) (pa_cons pe_int (pa_cons (pe_glob (v := .int 8) (by rfl) h8 ⟨_, rfl⟩) pa_nil)))))), ?_⟩
    exact ⟨_, rfl, x, e, 1, 8, rfl, hx, k1, k2⟩
theorem ok_is_prime (d : Dn K mg) (B : Bn mg) (M : Nm mg) : FnOk P w K mg base CX0 3 d.f_is_prime d.fd_is_prime ["thing"] spIsPrime := by
  have G_is_between := ok_is_between (P := P) (w := w) (base := base) d B
  refine d.D_is_prime.F.ok scis_prime (fun vs H Q E h => ?_) (fun cdv A outer s H vs Q E hr h => ?_)
  · obtain ⟨x, e, rfl, _⟩ := h
    rfl
  · obtain ⟨x, e, rfl, hx, k⟩ := h
    obtain ⟨t5, h5⟩ := M.p5
    obtain ⟨t6, h6⟩ := M.p251
    refine ⟨_, PSs.nox ((pss_cons (ps_if (pt_not (pt_val (pe_call G_is_between (hr.mono (by decide)) (by rfl) d.D_is_between.g d.D_is_between.F.kp d.D_is_between.b .nil pass0 (pa_cons (pv 0) (pa_cons (pe_glob (v := .int 5) (by rfl) h5 ⟨_, rfl⟩) (pa_cons (pe_glob (v := .int 251) (by rfl) h6 ⟨_, rfl⟩) pa_nil))))))
      (pss_one (ps_ret pe_bl)) pss_nil)
      (pss_one (ps_ret (pe_cmpR op_notIn_seq pe_int (pe_lc (own := [("number", 1)]) (g := gName 1) (tt := tYes) (te := (tOp (rI (fun _ j => 0 < j) fun i j => .int (i % j)) (tVar 0) (tVar 1))) rfl scis_prime.nd (pi_range2 (by rfl) B.rng (pa_cons pe_int (pa_cons (pv 0) pa_nil)))
        (blkOk_by (N := ["thing", "number"]) (sc := defScope sis_prime) (by decide +kernel)) (fun _ _ _ _ _ => pg_name (i := 1) scis_prime.nd rfl (Or.inl rfl)) (fun _ _ _ _ _ => pts_nil)
        (fun _ _ _ _ _ => (pe_op op_mod (pv 0) (pv 1)))) (by rfl)))))), ?_⟩
    refine ⟨_, rfl, x, e, 5, 251, rfl, hx, _, rfl, ?_⟩
    have k0 := k H (Same.refl _)
    cases hb : isBt e 5 251 with
    | false =>
      have e2 : isPrimeD e = false := by
        cases e with
        | int p =>
          show ((decide (5 ≤ p) && decide (p ≤ 251)) && allPrime p) = false
          rw [show (decide (5 ≤ p) && decide (p ≤ 251)) = false from hb, Bool.false_and]
        | _ => rfl
      rw [e2] at k0
      exact iteT k0
    | true =>
    obtain ⟨p, rfl, p0, p1⟩ := isBt_int hb
    cases hx
    have e2 : isPrimeD (.int p) = allPrime p := by
      show ((decide (5 ≤ p) && decide (p ≤ 251)) && allPrime p) = allPrime p
      rw [decide_eq_true p0, decide_eq_true p1]
      rfl
    refine iteF ⟨_, rfl, 2, p, rfl, ⟨by decide, by decide, by omega, by omega⟩, fun D nD => lcV_rangeL (lo := 2) (n := (p - 2).toNat) (fun _ => true) (fun z => .int (p % z)) (by omega) nD (fun z hz G sG R kR => kR G (Same.refl _)) (fun z hz _ G sG R kR => ?_) (fun G sG hD => ?_)⟩
    · obtain ⟨z0, z1⟩ := upFrom_mem.mp hz
      exact ⟨_, rfl, _, rfl, p, z, rfl, rfl, by omega, kR G (Same.refl _)⟩
    · have fl : (Kv.upFrom 2 (p - 2).toNat).filter (fun _ => true) = Kv.upFrom 2 (p - 2).toNat := List.filter_eq_self.mpr fun _ _ => rfl
      rw [fl] at hD
      have em : ((Kv.upFrom 2 (p - 2).toNat).map fun z => V.int (p % z)) = ((Kv.upFrom 2 (p - 2).toNat).map fun z => p % z).map V.int := (mapI _ _).symm
      rw [em] at hD
      refine ⟨D, _, rfl, Or.inl (SqL.of hD), rfl, flat_ints _, ?_⟩
      rw [if_pos rfl, inV_ints]
      have k2 := k G sG
      rw [e2] at k2
      exact k2
theorem ok_need_prime (d : Dn K mg) (B : Bn mg) (M : Nm mg) (XP : XcK K mg "NoPrime") : FnOk P w K mg base (L2.CX P w) 4 d.f_need_prime d.fd_need_prime ["thing"] (spNeedPrime K) := by
  have G_is_prime := ok_is_prime (P := P) (w := w) (base := base) d B M
  refine d.D_need_prime.F.ok (CX := L2.CX P w) scneed_prime (fun vs H Q E h => ?_) (fun cdv A outer s H vs Q E hr h => ?_)
  · obtain ⟨x, e, rfl, _⟩ := h
    rfl
  · obtain ⟨x, e, rfl, hx, k1, k2⟩ := h
    refine ⟨_, (pss_one (ps_if (pt_not (pt_val (pe_call G_is_prime (hr.mono (by decide)) (by rfl) d.D_is_prime.g d.D_is_prime.F.kp d.D_is_prime.b .nil pass0 (pa_cons (pv 0) pa_nil))))
      (pss_one (ps_raise rfl (takes_of rfl rfl rfl rfl) (pmk_ret rfl (pe_exc0 PySem.F.excBase_ValueError XP.ex XP.g XP.k (by rfl))))) pss_nil)), ?_⟩
    refine ⟨_, rfl, x, e, rfl, hx, fun H2 s2 => ⟨_, rfl, ?_⟩⟩
    cases hb : isPrimeD e with
    | true => exact iteF (k1 hb H2 s2)
    | false =>
      refine iteT ?_
      intro ea na
      refine ⟨ea, _, rfl, upd_same, fr0_none (s2.free na), raises_own XP.s XP.t, ?_⟩
      rw [delH_new na]
      exact k2 hb H2 s2
end
end K67
namespace K67
open PySem PySem.Spec PyProof.Rows L2 Kv
/-! ### power, too_few; primes, raised, due -/
def natAt (σ : L2.St) (i : Nat) : Nat := match σ[i]? with
  | some (some (V.int z)) => z.toNat
  | _ => 0
theorem natInt {a : Nat} {i : Int} (h : i = (a : Int)) : i.toNat = a := by omega
section
variable {P : Program} {w : World} {K : PySem.W.Frag} {mg : Str → Option Value} {base : Heap}
theorem ok_power (d : Dn K mg) (B : Bn mg) : FnOk P w K mg base CX0 1 d.f_power d.fd_power ["base", "exponent"] spPower := by
  refine d.D_power.F.ok scpower (fun vs H Q E h => ?_) (fun cdv A outer s H vs Q E hr h => ?_)
  · obtain ⟨b, e, rfl, _⟩ := h
    rfl
  · obtain ⟨b, e, rfl, b1, b2, e1, k⟩ := h
    refine ⟨_, PSs.nox ((pss_cons (ps_set (i := 2) scpower.nd rfl (Or.inl rfl) pe_int)
      (pss_cons (ps_while PassesOwn.never (pt_cmpR op_gt (pv 1) pe_int (nomark _))
      (C8.pss_cut (ps_if (pt_cmpR op_eq (pe_op op_mod (pv 1) pe_int) pe_int (nomark _))
      (pss_one (ps_set (i := 2) scpower.nd rfl (Or.inl rfl) (pe_op op_mulBig (pv 2) (pv 0)))) pss_nil) (pss_cons (ps_set (i := 0) scpower.nd rfl (Or.inl rfl) (pe_op op_mulBig (pv 0) (pv 0)))
      (pss_one (ps_set (i := 1) scpower.nd rfl (Or.inl rfl) (pe_op op_fdiv (pv 1) pe_int))))))
      (pss_one (ps_ret (pv 2)))))), ?_⟩
    refine while_by (fun σ2 H2 => ∃ (b' e' f' : Nat), σ2 = [some (.int b'), some (.int e'), some (.int f')] ∧ H2 = H ∧ 1 ≤ b' ∧ f' * b' ^ e' = b ^ e) (fun σ2 _ => natAt σ2 1) ⟨b, e, 1, rfl, rfl, b1, by rw [Nat.one_mul]⟩ ?_ ?_
    · rintro σ2 H2 ⟨b', e', f', rfl, rfl, hb, hp⟩
      obtain ⟨f1, f2, f3⟩ := pow_facts hb b1 hp
      refine ⟨_, rfl, _, 0, rfl, rfl, _, rfl, ?_⟩
      refine ite2 (fun hpos => ?_) (fun hpos => ?_)
      · have pos : 0 < e' := by
          have := of_decide_eq_true hpos
          omega
        have half := powHalf hp
        have small := bigPow b2 e1 (f3 pos)
        have small2 := bigPow b2 e1 f2
        have eh : ((e' : Int) / 2) = ((e' / 2 : Nat) : Int) := by omega
        refine ⟨fun σ3 H3 => ∃ f2 : Nat, σ3 = [some (.int b'), some (.int e'), some (.int f2)] ∧ H3 = H2 ∧ f2 = (if e' % 2 = 1 then f' * b' else f'), ?_, ?_⟩
        · refine ⟨_, rfl, _, 2, rfl, rfl, (by show (0 : Int) < 2; decide), rfl, _, rfl, ?_⟩
          have em : decide (V.int ((e' : Int) % 2) = V.int 1) = decide (e' % 2 = 1) := decide_eq_decide.mpr ⟨fun h => by have := V.int.inj h; omega, fun h => congrArg V.int (by omega)⟩
          rw [em]
          refine ite2 (fun h1 => ?_) (fun h1 => ?_)
          · have h2 := of_decide_eq_true h1
            refine ⟨_, rfl, _, rfl, (f' : Int), (b' : Int), rfl, rfl, ⟨by rw [Int.natAbs_natCast]; exact small2, by rw [Int.natAbs_natCast]; exact small⟩, ?_⟩
            exact ⟨f' * b', by rw [Int.natCast_mul]; rfl, rfl, by rw [if_pos h2]⟩
          · refine ⟨f', rfl, rfl, ?_⟩
            rw [if_neg fun h => h1 (decide_eq_true h)]
        · rintro σ3 H3 ⟨f2, rfl, rfl, ef⟩
          refine ⟨_, rfl, _, rfl, (b' : Int), (b' : Int), rfl, rfl, ⟨by rw [Int.natAbs_natCast]; exact small, by rw [Int.natAbs_natCast]; exact small⟩, ?_⟩
          refine ⟨_, rfl, (e' : Int), 2, rfl, rfl, ⟨by decide, by decide⟩, ?_⟩
          refine ⟨⟨b' * b', e' / 2, f2, by rw [Int.natCast_mul, ← eh]; rfl, rfl, Nat.one_le_iff_ne_zero.mpr (Nat.mul_ne_zero (by omega) (by omega)), by rw [ef]; exact half⟩, ?_⟩
          show ((e' : Int) / 2).toNat < (e' : Int).toNat
          omega
      · have z : e' = 0 := by
          have : ¬ (0 : Int) < e' := fun h => hpos (decide_eq_true h)
          omega
        subst z
        rw [Nat.pow_zero, Nat.mul_one] at hp
        refine ⟨_, rfl, ?_⟩
        rw [hp]
        exact k
    · rintro σ2 H2 Q1 Q2 hm ⟨v, h0, i, j, e1, e2, kk, e3, q⟩
      exact ⟨v, h0, i, j, e1, e2, kk, e3, hm _ _ q⟩
theorem ok_too_few (d : Dn K mg) (B : Bn mg) (M : Nm mg) (XP : XcK K mg "NoPrime") (XN : XcK K mg "NoNumber") : FnOk P w K mg base (L2.CX P w) 5 d.f_too_few d.fd_too_few ["prime", "size", "links", "frames", "beats"] (spTooFew K) := by
  have G_need_prime := ok_need_prime (P := P) (w := w) (base := base) d B M XP
  have G_need_size := ok_need_size (P := P) (w := w) (base := base) d B M XN
  have G_need_between := ok_need_between (P := P) (w := w) (base := base) d B XN
  have G_power := ok_power (P := P) (w := w) (base := base) d B
  refine d.D_too_few.F.ok (CX := L2.CX P w) sctoo_few (fun vs H Q E h => ?_) (fun cdv A outer s H vs Q E hr h => ?_)
  · obtain ⟨x1, x2, x3, x4, x5, d1, d2, d3, d4, d5, rfl, _⟩ := h
    rfl
  · obtain ⟨x1, x2, x3, x4, x5, d1, d2, d3, d4, d5, rfl, h1, h2, h3, h4, h5, k1, k2, k3⟩ := h
    obtain ⟨t6, hl60⟩ := M.l60
    obtain ⟨t7, hf400⟩ := M.f400
    obtain ⟨t8, hb400⟩ := M.b400
    refine ⟨_, (pss_cons (ps_expr (pe_call G_need_prime (hr.mono (by decide)) (by rfl) d.D_need_prime.g d.D_need_prime.F.kp d.D_need_prime.b .nil (passes_call (takes_of rfl rfl rfl rfl) (fun _ _ _ _ h => h)) (pa_cons (pv 0) pa_nil)))
      (pss_cons (ps_expr (pe_call G_need_size (hr.mono (by decide)) (by rfl) d.D_need_size.g d.D_need_size.F.kp d.D_need_size.b .nil (passes_call (takes_of rfl rfl rfl rfl) (fun _ _ _ _ h => h)) (pa_cons (pv 1) pa_nil)))
      (pss_cons (ps_expr (pe_call G_need_between (hr.mono (by decide)) (by rfl) d.D_need_between.g d.D_need_between.F.kp d.D_need_between.b .nil (passes_call (takes_of rfl rfl rfl rfl) (fun _ _ _ _ h => h)) (pa_cons (pv 2) (pa_cons pe_int (pa_cons (pe_glob (v := .int 60) (by rfl) hl60 ⟨_, rfl⟩) pa_nil)))))
      (pss_cons (ps_expr (pe_call G_need_between (hr.mono (by decide)) (by rfl) d.D_need_between.g d.D_need_between.F.kp d.D_need_between.b .nil (passes_call (takes_of rfl rfl rfl rfl) (fun _ _ _ _ h => h)) (pa_cons (pv 3) (pa_cons pe_int (pa_cons (pe_glob (v := .int 400) (by rfl) hf400 ⟨_, rfl⟩) pa_nil)))))
      (pss_cons (ps_expr (pe_call G_need_between (hr.mono (by decide)) (by rfl) d.D_need_between.g d.D_need_between.F.kp d.D_need_between.b .nil (passes_call (takes_of rfl rfl rfl rfl) (fun _ _ _ _ h => h)) (pa_cons (pv 4) (pa_cons pe_int (pa_cons (pe_glob (v := .int 400) (by rfl) hb400 ⟨_, rfl⟩) pa_nil)))))
      (pss_one (ps_ret (pe_cmpR op_lt (pe_call G_power (hr.mono (by decide)) (by rfl) d.D_power.g d.D_power.F.kp d.D_power.b .nil pass0 (pa_cons (pe_op op_add (pv 0) pe_int) (pa_cons (pe_op op_mul (pv 2) (pv 4)) pa_nil))) (pe_call G_power (hr.mono (by decide)) (by rfl) d.D_power.g d.D_power.F.kp d.D_power.b .nil pass0 (pa_cons (pv 0) (pa_cons (pe_op op_mul (pv 1) (pv 3)) pa_nil))) (nomark _))))))))), ?_⟩
    refine ⟨_, rfl, x1, d1, rfl, h1, fun hp H2 s2 => ?_, fun hp H2 s2 => k1 (due_prime hp) H2 s2⟩
    have num : numsOk d2 d3 d4 d5 = false → E (.ref (He.ga K "NoNumber")) none H2 := fun h => k2 (due_number hp h) H2 s2
    refine ⟨_, rfl, x2, d2, rfl, h2.keep s2, fun c2 => ?_, fun c2 => num (by unfold numsOk; rw [c2]; rfl)⟩
    refine ⟨_, rfl, x3, d3, 0, 60, rfl, h3.keep s2, fun c3 => ?_, fun c3 => num (by unfold numsOk; rw [c2, c3]; rfl)⟩
    refine ⟨_, rfl, x4, d4, 0, 400, rfl, h4.keep s2, fun c4 => ?_, fun c4 => num (by unfold numsOk; rw [c2, c3, c4]; rfl)⟩
    refine ⟨_, rfl, x5, d5, 0, 400, rfl, h5.keep s2, fun c5 => ?_, fun c5 => num (by unfold numsOk; rw [c2, c3, c4, c5]; rfl)⟩
    have ok : numsOk d2 d3 d4 d5 = true := by unfold numsOk; rw [c2, c3, c4, c5]; rfl
    obtain ⟨p, rfl, p0, p1, ap⟩ := isPrimeD_int hp
    obtain ⟨s, l, f, b, rfl, rfl, rfl, rfl, s0, s1, l0, l1, f0, f1, b0, b1⟩ := numsOk_int ok
    cases h1
    cases h2
    cases h3
    cases h4
    cases h5
    obtain ⟨pn, ep⟩ : ∃ pn : Nat, p = pn := ⟨p.toNat, by omega⟩
    obtain ⟨sn, es⟩ : ∃ sn : Nat, s = sn := ⟨s.toNat, by omega⟩
    obtain ⟨ln, el⟩ : ∃ ln : Nat, l = ln := ⟨l.toNat, by omega⟩
    obtain ⟨fn, ef⟩ : ∃ fn : Nat, f = fn := ⟨f.toNat, by omega⟩
    obtain ⟨bn, eb⟩ : ∃ bn : Nat, b = bn := ⟨b.toNat, by omega⟩
    subst ep es el ef eb
    have lb : ln * bn ≤ 60 * 400 := Nat.mul_le_mul (by omega) (by omega)
    have sf : sn * fn ≤ 8 * 400 := Nat.mul_le_mul (by omega) (by omega)
    refine ⟨_, rfl, _, 1, rfl, rfl, _, rfl, _, rfl, (ln : Int), (bn : Int), rfl, rfl, Or.inl (by omega), pn + 1, ln * bn, by rw [Int.natCast_mul]; rfl, by omega, by omega, by omega, ?_⟩
    refine ⟨_, rfl, _, rfl, _, rfl, (sn : Int), (fn : Int), rfl, rfl, Or.inl (by omega), pn, sn * fn, by rw [Int.natCast_mul]; rfl, by omega, by omega, by omega, ?_⟩
    refine ⟨_, _, rfl, rfl, ?_⟩
    have key := k3 _ (due_bl hp ok) H2 s2
    have e : lessI (pn : Int) sn ln fn bn = decide ((((pn + 1) ^ (ln * bn) : Nat) : Int) < ((pn ^ (sn * fn) : Nat) : Int)) := by
      unfold lessI
      rw [natInt (a := pn) rfl, ← Int.natCast_mul, ← Int.natCast_mul, natInt rfl, natInt rfl]
      exact decide_eq_decide.mpr Int.ofNat_lt.symm
    rw [e] at key
    exact key
theorem ok_primes (d : Dn K mg) (B : Bn mg) : FnOk P w K mg base CX0 1 d.f_primes d.fd_primes [] spPrimes := by
  refine d.D_primes.F.ok sc_law_primes (fun vs H Q E h => ?_) (fun cdv A outer s H vs Q E hr h => ?_)
  · obtain ⟨rfl, _⟩ := h
    rfl
  · obtain ⟨rfl, k⟩ := h
    refine ⟨_, PSs.nox ((pss_cons (ps_set (i := 0) sc_law_primes.nd rfl (Or.inl rfl) (pe_lst pa_nil))
      (pss_cons (ps_for PassesOwn.never rfl (pi_range2 (by rfl) B.rng (pa_cons pe_int (pa_cons pe_int pa_nil))) (pg_name (i := 1) sc_law_primes.nd rfl (Or.inr rfl))
      (pss_one (ps_if (pt_val (pe_callB (cr_all rfl) (by rfl) B.all boot_all (pa_cons (pe_lc (own := [("_law_one", 2)]) (g := gName 2) (tt := tTest (tOp (rI0 fun i j => .bl (decide (i < j))) (tVar 2) (tVar 1))) (te := tOp (rI0 fun i j => .bl (decide (j < i))) (tOp (rI (fun _ j => 0 < j) fun i j => .int (i % j)) (tCB (fun xs H Q => (∃ i, xs = [.int i] ∧ Q (.int i) H) ∨ ∃ k, xs = [.bl k] ∧ Q (.int (if k then 1 else 0)) H) (tCons (tVar 1) tNil)) (tVar 2)) (tC (.int 0))) rfl sc_law_primes.nd (pi_range2 (by rfl) B.rng (pa_cons pe_int (pa_cons pe_int pa_nil)))
        (blkOk_by (N := ["_law_found", "_law_number", "_law_one"]) (sc := defScope s_law_primes) (by decide +kernel)) (fun _ _ _ _ _ => pg_name (i := 2) sc_law_primes.nd rfl (Or.inl rfl)) (fun _ _ _ _ _ => (pts_one (pt_cmpR op_lt (pv 2) (pv 1) (nomark _))))
        (fun _ _ _ _ _ => (pe_cmpR op_gt (pe_op op_mod (pe_callTy call_int1 (by rfl) B.int boot_int (pa_cons (pv 1) pa_nil)) (pv 2)) pe_int (nomark _)))) pa_nil)))
      (pss_one (ps_expr (pe_bm PySem.F.plainAttrs_list PySem.F.slot_list_append PySem.F.type_list_append mt_append (pv 0) (pa_cons (pv 1) pa_nil)))) pss_nil)))
      (pss_one (ps_ret (pv 0)))))), ?_⟩
    refine ⟨by show 0 ≤ sizeLine; decide, fun F nF => ?_⟩
    have sF := sameNew (o := HO.lst []) nF
    refine ⟨5, 252, rfl, ⟨by decide, by decide, by decide, by decide⟩, for_range (lo := 5) (n := 247) (fun i σ2 H2 => ∃ v1 v2 : Option V, σ2 = [some (.ref F), v1, v2] ∧ Same H H2 ∧ H2 F = some (.lst ((((Kv.upFrom 5 247).take i).filter smallPrime).map V.int))) ⟨_, _, rfl, sF, upd_same⟩ ?_ ?_⟩
    · rintro i σ2 H2 hi ⟨v1, v2, rfl, s2, hF⟩
      have hz : (Kv.upFrom 5 247)[i]? = some (5 + (i : Int)) := upFrom_get hi
      have step : (((Kv.upFrom 5 247).take (i + 1)).filter smallPrime) = (((Kv.upFrom 5 247).take i).filter smallPrime) ++ ([5 + (i : Int)].filter smallPrime) := by rw [takeSucc _ hz, List.filter_append]
      refine ⟨2, 16, rfl, ⟨by decide, by decide, by decide, by decide⟩, fun D nD => lcV_rangeL (lo := 2) (n := 14) (fun o => decide (o < 5 + (i : Int))) (fun o => .bl (decide (0 < (5 + (i : Int)) % o))) (by decide) nD (fun z hz G sG R kR => ?_) (fun z hz _ G sG R kR => ?_) (fun G sG hD => ?_)⟩
      · exact ⟨_, rfl, _, rfl, z, _, rfl, rfl, _, rfl, kR G (Same.refl _)⟩
      · obtain ⟨z0, z1⟩ := upFrom_mem.mp hz
        exact ⟨_, rfl, Or.inl ⟨_, rfl, _, rfl, _, z, rfl, rfl, by omega, _, 0, rfl, rfl, kR G (Same.refl _)⟩⟩
      · have em : (((Kv.upFrom 2 14).filter fun o => decide (o < 5 + (i : Int))).map fun o => V.bl (decide (0 < (5 + (i : Int)) % o))) = (((Kv.upFrom 2 14).filter fun o => decide (o < 5 + (i : Int))).map fun o => decide (0 < (5 + (i : Int)) % o)).map V.bl := by rw [List.map_map]; rfl
        rw [em] at hD
        refine ⟨D, _, rfl, SqL.of hD, _, rfl, ?_⟩
        have hF2 := sG _ _ hF
        have len : (((Kv.upFrom 5 247).take i).filter smallPrime).length ≤ 247 := Nat.le_trans (List.length_filter_le _ _) (by rw [List.length_take]; omega)
        have nFH : H F = none := nF
        cases hs : smallPrime (5 + (i : Int)) with
        | true =>
          have hs2 : ((((Kv.upFrom 2 14).filter fun o => decide (o < 5 + (i : Int))).map fun o => decide (0 < (5 + (i : Int)) % o)).all id) = true := hs
          rw [hs2]
          refine iteT ⟨_, rfl, Or.inl ⟨rfl, _, SqL.of hF2⟩, _, rfl, F, _, .int (5 + (i : Int)), rfl, rfl, hF2, by rw [List.length_map]; exact Nat.lt_of_le_of_lt len (by decide), ?_⟩
          refine ⟨_, _, rfl, samePut (s2.trans sG) nFH, ?_⟩
          rw [upd_same, step]
          have e1 : [5 + (i : Int)].filter smallPrime = [5 + (i : Int)] := by simp [hs]
          rw [e1, List.map_append]
          rfl
        | false =>
          have hs2 : ((((Kv.upFrom 2 14).filter fun o => decide (o < 5 + (i : Int))).map fun o => decide (0 < (5 + (i : Int)) % o)).all id) = false := hs
          rw [hs2]
          refine iteF ⟨_, _, rfl, s2.trans sG, ?_⟩
          rw [hF2, step]
          have e1 : [5 + (i : Int)].filter smallPrime = [] := by simp [hs]
          rw [e1, List.append_nil]
    · rintro σ2 H2 ⟨v1, v2, rfl, s2, hF⟩
      rw [List.take_of_length_le (by rw [upFrom_len]; exact Nat.le_refl _)] at hF
      exact ⟨_, rfl, k F H2 s2 hF⟩
end
end K67
namespace K67
open PySem PySem.Spec PyProof.Rows L2 Kv
/-! ### _law_raised, _law_due, _law_told, _law_is_right, _law_is_behind -/
def spRaised : Sp := fun vs H Q _ => ∃ (B E : Nat), vs = [.int B, .int E] ∧ 1 ≤ B ∧ B ≤ 256 ∧ E ≤ 100000 ∧ Q (.int ((B ^ E : Nat) : Int)) H
structure T67 (K : PySem.W.Frag) (mg : Str → Option Value) : Prop where
  XP : XcK K mg "NoPrime"
  XN : XcK K mg "NoNumber"
  gT : mg "TreeError" = some (.ref (He.ga K "TreeError"))
  e1 : errB K (He.ga K "NoPrime") = true
  e2 : errB K (He.ga K "NoNumber") = true
  t1 : PySem.W.kitOne K (.ref (He.ga K "NoPrime")) (.ref (He.ga K "TreeError")) = some true
  t2 : PySem.W.kitOne K (.ref (He.ga K "NoNumber")) (.ref (He.ga K "TreeError")) = some true
  x1 : PySem.W.exmOne K (.ref (He.ga K "NoPrime")) (.ref (He.ga K "NoPrime")) = some true
  x2 : PySem.W.exmOne K (.ref (He.ga K "NoNumber")) (.ref (He.ga K "NoNumber")) = some true
  x3 : PySem.W.exmOne K (.ref (He.ga K "NoNumber")) (.ref (He.ga K "NoPrime")) = some false
theorem due_cases (d1 d2 d3 d4 d5 : PyData) : dueD d1 d2 d3 d4 d5 = .str "prime" ∨ dueD d1 d2 d3 d4 d5 = .str "number" ∨ ∃ b, dueD d1 d2 d3 d4 d5 = .bl b := by
  cases h1 : isPrimeD d1 with
  | false => exact Or.inl (due_prime h1)
  | true =>
    cases h2 : numsOk d2 d3 d4 d5 with
    | false => exact Or.inr (Or.inl (due_number h1 h2))
    | true =>
      obtain ⟨p, rfl, _⟩ := isPrimeD_int h1
      obtain ⟨s, l, f, b, rfl, rfl, rfl, rfl, _⟩ := numsOk_int h2
      exact Or.inr (Or.inr ⟨_, due_bl h1 h2⟩)
theorem inPrimes {p : Int} : primesL.contains p = (decide (5 ≤ p) && decide (p ≤ 251) && allPrime p) := by
  rw [Bool.eq_iff_iff, List.contains_iff_mem, Bool.and_eq_true, Bool.and_eq_true, decide_eq_true_eq, decide_eq_true_eq]
  unfold primesL
  rw [List.mem_filter, upFrom_mem]
  constructor
  · rintro ⟨⟨h1, h2⟩, h3⟩
    exact ⟨⟨h1, by omega⟩, by rw [← primes_same h1 (by omega)]; exact h3⟩
  · rintro ⟨⟨h1, h2⟩, h3⟩
    exact ⟨⟨h1, by omega⟩, by rw [primes_same h1 h2]; exact h3⟩
section
variable {P : Program} {w : World} {K : PySem.W.Frag} {mg : Str → Option Value} {base : Heap}
theorem ok_raised (d : Dn K mg) (B : Bn mg) : FnOk P w K mg base CX0 1 d.f_raised d.fd_raised ["_law_base", "_law_times"] spRaised := by
  refine d.D_raised.F.ok sc_law_raised (fun vs H Q E h => ?_) (fun cdv A outer s H vs Q E hr h => ?_)
  · obtain ⟨b, e, rfl, _⟩ := h
    rfl
  · obtain ⟨b, e, rfl, b1, b2, e1, k⟩ := h
    refine ⟨_, PSs.nox ((pss_cons (ps_set (i := 2) sc_law_raised.nd rfl (Or.inl rfl) pe_int)
      (pss_cons (ps_set (i := 3) sc_law_raised.nd rfl (Or.inl rfl) (pv 0))
      (pss_cons (ps_set (i := 4) sc_law_raised.nd rfl (Or.inl rfl) (pv 1))
      (pss_cons (ps_for PassesOwn.never rfl (pi_range1 (by rfl) B.rng (pa_cons pe_int pa_nil)) (pg_name (i := 5) sc_law_raised.nd rfl (Or.inl rfl))
      (C8.pss_cut (ps_if (pt_cmpR op_eq (pe_op op_mod (pe_callTy call_int1 (by rfl) B.int boot_int (pa_cons (pv 4) pa_nil)) pe_int) pe_int (nomark _))
      (pss_one (ps_set (i := 2) sc_law_raised.nd rfl (Or.inl rfl) (pe_op op_mulBig (pv 2) (pv 3)))) pss_nil) (pss_cons (ps_set (i := 4) sc_law_raised.nd rfl (Or.inl rfl) (pe_op op_fdiv (pv 4) pe_int))
      (pss_one (ps_if (pt_cmpR op_gt (pv 4) pe_int (nomark _))
      (pss_one (ps_set (i := 3) sc_law_raised.nd rfl (Or.inl rfl) (pe_op op_mulBig (pv 3) (pv 3)))) pss_nil)))))
      (pss_one (ps_ret (pv 2)))))))), ?_⟩
    refine ⟨_, rfl, _, rfl, ?_⟩
    refine ⟨20, rfl, by decide, by decide, for_range (lo := 0) (n := 20) (fun i σ2 H2 => ∃ (b' f' : Nat) (v5 : Option V), σ2 = [some (.int b), some (.int e), some (.int f'), some (.int b'), some (.int ((e / 2 ^ i : Nat) : Int)), v5] ∧ H2 = H ∧ 1 ≤ b' ∧ f' * b' ^ (e / 2 ^ i) = b ^ e)
      ⟨b, 1, _, by rw [Nat.pow_zero, Nat.div_one]; rfl, rfl, b1, by rw [Nat.one_mul, Nat.pow_zero, Nat.div_one]⟩ ?_ ?_⟩
    · rintro i σ2 H2 hi ⟨b', f', v5, rfl, rfl, hb, hp⟩
      obtain ⟨f1, f2, f3⟩ := pow_facts hb b1 hp
      have half := powHalf hp
      have ed : e / 2 ^ (i + 1) = e / 2 ^ i / 2 := by rw [Nat.pow_succ, Nat.div_div_eq_div_mul]
      rw [ed]
      generalize e / 2 ^ i = e' at hp half f3 ⊢
      have small2 := bigPow b2 e1 f2
      have eh : ((e' : Int) / 2) = ((e' / 2 : Nat) : Int) := by omega
      refine ⟨fun σ3 H3 => ∃ f2 : Nat, σ3 = [some (.int b), some (.int e), some (.int f2), some (.int b'), some (.int e'), some (.int (0 + (i : Int)))] ∧ H3 = H2 ∧ f2 = (if e' % 2 = 1 then f' * b' else f'), ?_, ?_⟩
      · refine ⟨_, rfl, Or.inl ⟨_, rfl, _, 2, rfl, rfl, (by show (0 : Int) < 2; decide), rfl, _, rfl, ?_⟩⟩
        have em : decide (V.int ((e' : Int) % 2) = V.int 1) = decide (e' % 2 = 1) := decide_eq_decide.mpr ⟨fun h => by have := V.int.inj h; omega, fun h => congrArg V.int (by omega)⟩
        rw [em]
        refine ite2 (fun h1 => ?_) (fun h1 => ?_)
        · have h2 := of_decide_eq_true h1
          have small := bigPow b2 e1 (f3 (by omega))
          refine ⟨_, rfl, _, rfl, (f' : Int), (b' : Int), rfl, rfl, ⟨by rw [Int.natAbs_natCast]; exact small2, by rw [Int.natAbs_natCast]; exact small⟩, ?_⟩
          exact ⟨f' * b', by rw [Int.natCast_mul]; rfl, rfl, by rw [if_pos h2]⟩
        · refine ⟨f', rfl, rfl, ?_⟩
          rw [if_neg fun h => h1 (decide_eq_true h)]
      · rintro σ3 H3 ⟨f2, rfl, rfl, ef⟩
        refine ⟨_, rfl, (e' : Int), 2, rfl, rfl, ⟨by decide, by decide⟩, ?_⟩
        refine ⟨_, rfl, (e' : Int) / 2, 0, rfl, rfl, _, rfl, ?_⟩
        refine ite2 (fun hpos => ?_) (fun hpos => ?_)
        · have pos : 0 < e' := by
            have := of_decide_eq_true hpos
            omega
          have small := bigPow b2 e1 (f3 pos)
          refine ⟨_, rfl, _, rfl, (b' : Int), (b' : Int), rfl, rfl, ⟨by rw [Int.natAbs_natCast]; exact small, by rw [Int.natAbs_natCast]; exact small⟩, ?_⟩
          exact ⟨b' * b', f2, _, by rw [Int.natCast_mul, ← eh]; rfl, rfl, Nat.one_le_iff_ne_zero.mpr (Nat.mul_ne_zero (by omega) (by omega)), by rw [ef]; exact half⟩
        · have z : e' / 2 = 0 := by
            have : ¬ (0 : Int) < (e' : Int) / 2 := fun h => hpos (decide_eq_true h)
            omega
          refine ⟨b', f2, _, by rw [← eh]; rfl, rfl, hb, ?_⟩
          rw [z, Nat.pow_zero, Nat.mul_one] at half ⊢
          rw [ef]
          exact half
    · rintro σ2 H2 ⟨b', f', v5, rfl, rfl, hb, hp⟩
      have z : e / 2 ^ 20 = 0 := Nat.div_eq_of_lt (by omega)
      rw [z, Nat.pow_zero, Nat.mul_one] at hp
      refine ⟨_, rfl, ?_⟩
      rw [hp]
      exact k
theorem ok_due (d : Dn K mg) (B : Bn mg) : FnOk P w K mg base CX0 2 d.f_due d.fd_due ["_law_prime", "_law_size", "_law_links", "_law_frames", "_law_beats"] spDue := by
  have G_is_within := ok_is_within (P := P) (w := w) (base := base) d B
  have G_primes := ok_primes (P := P) (w := w) (base := base) d B
  have G_raised := ok_raised (P := P) (w := w) (base := base) d B
  refine d.D_due.F.ok sc_law_due (fun vs H Q E h => ?_) (fun cdv A outer s H vs Q E hr h => ?_)
  · obtain ⟨x1, x2, x3, x4, x5, d1, d2, d3, d4, d5, rfl, _⟩ := h
    rfl
  · obtain ⟨x1, x2, x3, x4, x5, d1, d2, d3, d4, d5, rfl, h1, h2, h3, h4, h5, k⟩ := h
    refine ⟨_, PSs.nox ((pss_cons (ps_if (PW.pt (pw_or (pt_not (pt_val (pe_call G_is_within (hr.mono (by decide)) (by rfl) d.D_is_within.g d.D_is_within.F.kp d.D_is_within.b .nil pass0 (pa_cons (pv 0) (pa_cons pe_int (pa_cons pe_int pa_nil)))))) (pw_or1 (pt_cmpR op_notIn_seq (pv 0) (pe_call0 G_primes (hr.mono (by decide)) (by rfl) d.D_primes.g d.D_primes.F.kp d.D_primes.b .nil pass0 ) (by rfl)))))
      (pss_one (ps_ret pe_str)) pss_nil)
      (pss_cons (ps_if (PW.pt (pw_or (pt_not (pt_val (pe_call G_is_within (hr.mono (by decide)) (by rfl) d.D_is_within.g d.D_is_within.F.kp d.D_is_within.b .nil pass0 (pa_cons (pv 1) (pa_cons pe_int (pa_cons pe_int pa_nil)))))) (pw_or1 (pt_not (pt_val (pe_call G_is_within (hr.mono (by decide)) (by rfl) d.D_is_within.g d.D_is_within.F.kp d.D_is_within.b .nil pass0 (pa_cons (pv 2) (pa_cons pe_int (pa_cons pe_int pa_nil)))))))))
      (pss_one (ps_ret pe_str)) pss_nil)
      (pss_cons (ps_if (PW.pt (pw_or (pt_not (pt_val (pe_call G_is_within (hr.mono (by decide)) (by rfl) d.D_is_within.g d.D_is_within.F.kp d.D_is_within.b .nil pass0 (pa_cons (pv 3) (pa_cons pe_int (pa_cons pe_int pa_nil)))))) (pw_or1 (pt_not (pt_val (pe_call G_is_within (hr.mono (by decide)) (by rfl) d.D_is_within.g d.D_is_within.F.kp d.D_is_within.b .nil pass0 (pa_cons (pv 4) (pa_cons pe_int (pa_cons pe_int pa_nil)))))))))
      (pss_one (ps_ret pe_str)) pss_nil)
      (pss_one (ps_ret (pe_cmpR op_lt (pe_call G_raised (hr.mono (by decide)) (by rfl) d.D_raised.g d.D_raised.F.kp d.D_raised.b .nil pass0 (pa_cons (pe_op op_add (pv 0) pe_int) (pa_cons (pe_op op_mul (pv 2) (pv 4)) pa_nil))) (pe_call G_raised (hr.mono (by decide)) (by rfl) d.D_raised.g d.D_raised.F.kp d.D_raised.b .nil pass0 (pa_cons (pv 0) (pa_cons (pe_op op_mul (pv 1) (pv 3)) pa_nil))) (nomark _)))))))), ?_⟩
    refine ⟨_, rfl, x1, d1, 5, 251, rfl, h1, _, rfl, ?_⟩
    cases hb : isBt d1 5 251 with
    | false =>
      refine iteT (iteT ?_)
      have e2 : isPrimeD d1 = false := by
        cases d1 with
        | int p =>
          show ((decide (5 ≤ p) && decide (p ≤ 251)) && allPrime p) = false
          rw [show (decide (5 ≤ p) && decide (p ≤ 251)) = false from hb, Bool.false_and]
        | _ => rfl
      have k0 := k H (Same.refl _)
      rw [due_prime e2] at k0
      exact k0
    | true =>
    obtain ⟨p, rfl, p0, p1⟩ := isBt_int hb
    cases h1
    refine iteF ⟨_, rfl, rfl, fun q H2 s2 hq => ⟨q, _, rfl, Or.inl (SqL.of hq), rfl, flat_ints _, _, rfl, ?_⟩⟩
    rw [if_pos rfl, inV_ints, inPrimes, decide_eq_true p0, decide_eq_true p1, Bool.true_and, Bool.true_and]
    have ep : isPrimeD (.int p) = allPrime p := by
      show ((decide (5 ≤ p) && decide (p ≤ 251)) && allPrime p) = allPrime p
      rw [decide_eq_true p0, decide_eq_true p1]
      rfl
    have k2 := k H2 s2
    cases ap : allPrime p with
    | false =>
      rw [due_prime (by rw [ep]; exact ap)] at k2
      exact iteT k2
    | true =>
    have hp : isPrimeD (.int p) = true := by rw [ep]; exact ap
    have num : numsOk d2 d3 d4 d5 = false → Q (.str "number") H2 := fun h => by
      rw [due_number hp h] at k2
      exact k2
    refine iteF ⟨_, rfl, x2, d2, 1, 8, rfl, h2.keep s2, _, rfl, ?_⟩
    cases c2 : isBt d2 1 8 with
    | false => exact iteT (iteT (num (by unfold numsOk; rw [c2]; rfl)))
    | true =>
    refine iteF ⟨_, rfl, x3, d3, 0, 60, rfl, h3.keep s2, _, rfl, ?_⟩
    cases c3 : isBt d3 0 60 with
    | false => exact iteT (num (by unfold numsOk; rw [c2, c3]; rfl))
    | true =>
    refine iteF ⟨_, rfl, x4, d4, 0, 400, rfl, h4.keep s2, _, rfl, ?_⟩
    cases c4 : isBt d4 0 400 with
    | false => exact iteT (iteT (num (by unfold numsOk; rw [c2, c3, c4]; rfl)))
    | true =>
    refine iteF ⟨_, rfl, x5, d5, 0, 400, rfl, h5.keep s2, _, rfl, ?_⟩
    cases c5 : isBt d5 0 400 with
    | false => exact iteT (num (by unfold numsOk; rw [c2, c3, c4, c5]; rfl))
    | true =>
    have ok : numsOk d2 d3 d4 d5 = true := by unfold numsOk; rw [c2, c3, c4, c5]; rfl
    obtain ⟨s, l, f, b, rfl, rfl, rfl, rfl, s0, s1, l0, l1, f0, f1, b0, b1⟩ := numsOk_int ok
    cases h2
    cases h3
    cases h4
    cases h5
    obtain ⟨pn, ep⟩ : ∃ pn : Nat, p = pn := ⟨p.toNat, by omega⟩
    obtain ⟨sn, es⟩ : ∃ sn : Nat, s = sn := ⟨s.toNat, by omega⟩
    obtain ⟨ln, el⟩ : ∃ ln : Nat, l = ln := ⟨l.toNat, by omega⟩
    obtain ⟨fn, ef⟩ : ∃ fn : Nat, f = fn := ⟨f.toNat, by omega⟩
    obtain ⟨bn, eb⟩ : ∃ bn : Nat, b = bn := ⟨b.toNat, by omega⟩
    subst ep es el ef eb
    have lb : ln * bn ≤ 60 * 400 := Nat.mul_le_mul (by omega) (by omega)
    have sf : sn * fn ≤ 8 * 400 := Nat.mul_le_mul (by omega) (by omega)
    refine iteF ⟨_, rfl, _, 1, rfl, rfl, _, rfl, _, rfl, (ln : Int), (bn : Int), rfl, rfl, Or.inl (by omega), pn + 1, ln * bn, by rw [Int.natCast_mul]; rfl, by omega, by omega, by omega, ?_⟩
    refine ⟨_, rfl, _, rfl, _, rfl, (sn : Int), (fn : Int), rfl, rfl, Or.inl (by omega), pn, sn * fn, by rw [Int.natCast_mul]; rfl, by omega, by omega, by omega, ?_⟩
    refine ⟨_, _, rfl, rfl, ?_⟩
    rw [due_bl hp ok] at k2
    have e : lessI (pn : Int) sn ln fn bn = decide ((((pn + 1) ^ (ln * bn) : Nat) : Int) < ((pn ^ (sn * fn) : Nat) : Int)) := by
      unfold lessI
      rw [natInt (a := pn) rfl, ← Int.natCast_mul, ← Int.natCast_mul, natInt rfl, natInt rfl]
      exact decide_eq_decide.mpr Int.ofNat_lt.symm
    rw [e] at k2
    exact k2
theorem ok_told (d : Dn K mg) (B : Bn mg) (M : Nm mg) (T : T67 K mg) : FnOk P w K mg base CX0 6 d.f_told d.fd_told ["_law_prime", "_law_size", "_law_links", "_law_frames", "_law_beats"] spDue := by
  have G_too_few := ok_too_few (P := P) (w := w) (base := base) d B M T.XP T.XN
  refine d.D_told.F.ok sc_law_told (fun vs H Q E h => ?_) (fun cdv A outer s H vs Q E hr h => ?_)
  · obtain ⟨x1, x2, x3, x4, x5, d1, d2, d3, d4, d5, rfl, _⟩ := h
    rfl
  · obtain ⟨x1, x2, x3, x4, x5, d1, d2, d3, d4, d5, rfl, h1, h2, h3, h4, h5, k⟩ := h
    refine ⟨_, PSs.nox (pss_cons (ps_set (i := 5) sc_law_told.nd rfl (Or.inl rfl) pe_non) (pss_cons (ps_set (i := 6) sc_law_told.nd rfl (Or.inl rfl) pe_bl)
      (pss_cons (ps_try_manyAs (i := 7) (Wout := fun _ _ _ _ => False) rfl rfl sc_law_told.nd rfl rfl takes0
        (fun W pn xe tk po => pss_cons (ps_set (i := 5) sc_law_told.nd rfl (Or.inl rfl) (pe_callS G_too_few (hr.mono (by decide)) (by rfl) d.D_too_few.g d.D_too_few.F.kp d.D_too_few.b (fun σ => passAt tk σ) (pa_cons (pv 0) (pa_cons (pv 1) (pa_cons (pv 2) (pa_cons (pv 3) (pa_cons (pv 4) pa_nil)))))))
          (pss_one (ps_set (i := 6) sc_law_told.nd rfl (Or.inl rfl) (pe_callB (r := rIsi K) call_isi (by rfl) B.isi boot_isinstance (pa_cons (pv 5) (pa_cons (pe_bltn (v := .ty "bool") (by rfl) B.bool (by decide +kernel) rfl) pa_nil))))))
        (.cons ⟨by rfl, by decide, Or.inl T.XP.g⟩ (fun a oe cls dd pn hz hf => pss_cons (ps_set (i := 5) sc_law_told.nd rfl (Or.inl rfl) pe_str) (pss_one (ps_set (i := 6) sc_law_told.nd rfl (Or.inl rfl) (pe_callB (r := rIsC K a cls dd) (call_isC hz hf) (by rfl) B.isi boot_isinstance (pa_cons (pv 7) (pa_cons (pe_glob (v := .ref (He.ga K "TreeError")) (by rfl) T.gT rfl) pa_nil))))))
        (.cons ⟨by rfl, by decide, Or.inl T.XN.g⟩ (fun a oe cls dd pn hz hf => pss_cons (ps_set (i := 5) sc_law_told.nd rfl (Or.inl rfl) pe_str) (pss_one (ps_set (i := 6) sc_law_told.nd rfl (Or.inl rfl) (pe_callB (r := rIsC K a cls dd) (call_isC hz hf) (by rfl) B.isi boot_isinstance (pa_cons (pv 7) (pa_cons (pe_glob (v := .ref (He.ga K "TreeError")) (by rfl) T.gT rfl) pa_nil)))))) .nil)))
      (pss_one (ps_ret (pe_ifExp (pt_val (pv 6)) (pv 5) pe_non)))))), ?_⟩
    refine ⟨_, rfl, _, rfl, _, rfl, _, rfl, _, rfl, x1, x2, x3, x4, x5, d1, d2, d3, d4, d5, rfl, h1, h2, h3, h4, h5, fun hd H2 s2 => ?_, fun hd H2 s2 => ?_, fun b hd H2 s2 => ?_⟩
    · refine ⟨true, T.x1, fun _ er ner => ?_, fun zz => nomatch zz⟩
      refine ⟨_, rfl, He.ga K "NoPrime", _, _, true, ⟨rfl, T.e1, Or.inl rfl⟩, rfl, .own _, T.t1, ?_⟩
      refine ⟨_, rfl, true, rfl, iteT ⟨_, rfl, ?_⟩⟩
      have k2 := k H2 s2
      rw [hd] at k2
      exact k2
    · refine ⟨false, T.x3, fun zz => (nomatch zz), fun _ => ⟨true, T.x2, fun _ er ner => ?_, fun zz => nomatch zz⟩⟩
      refine ⟨_, rfl, He.ga K "NoNumber", _, _, true, ⟨rfl, T.e2, Or.inl rfl⟩, rfl, .own _, T.t2, ?_⟩
      refine ⟨_, rfl, true, rfl, iteT ⟨_, rfl, ?_⟩⟩
      have k2 := k H2 s2
      rw [hd] at k2
      exact k2
    · refine ⟨_, rfl, _, _, _, _, _, rfl, .ty _, (Th.bl b).tyx, kit_bool (.bool b), ?_⟩
      refine ⟨_, rfl, true, rfl, iteT ⟨_, rfl, ?_⟩⟩
      have k2 := k H2 s2
      rw [hd] at k2
      exact k2
end
end K67
namespace K67
open PySem PySem.Spec PyProof.Rows L2 Kv
/-! ### _law_is_right, _law_is_behind, law -/
def bN (t s : Nat) : Nat → Nat
  | 0 => t * s
  | i + 1 => 2 * bN t s i + 1
def behindB : Bool := (List.range 252).all fun p => !(decide (5 ≤ p) && smallPrime (p : Nat)) || (List.range 9).all fun s => !decide (2 ≤ s) || (List.range 4).all fun t => !decide (1 ≤ t) || (List.range 9).any fun i => decide (bN t s i ≤ 400) && decide ((p + 1) ^ ((s - 1) * bN t s i) < p ^ (s * (bN t s i - t)))
theorem behindB_ok : behindB = true := by decide +kernel
theorem behind_all (p : Nat) (h1 : p < 252) (h2 : 5 ≤ p) (h3 : smallPrime (p : Nat) = true) (s : Nat) (h4 : s < 9) (h5 : 2 ≤ s) (t : Nat) (h6 : t < 4) (h7 : 1 ≤ t) : ((List.range 9).any fun i => decide (bN t s i ≤ 400) && decide ((p + 1) ^ ((s - 1) * bN t s i) < p ^ (s * (bN t s i - t)))) = true := by
  have a := List.all_eq_true.mp behindB_ok p (List.mem_range.mpr h1)
  rw [decide_eq_true h2, h3, Bool.and_self, Bool.not_true, Bool.false_or] at a
  have b := List.all_eq_true.mp a s (List.mem_range.mpr h4)
  rw [decide_eq_true h5, Bool.not_true, Bool.false_or] at b
  have c := List.all_eq_true.mp b t (List.mem_range.mpr h6)
  rw [decide_eq_true h7, Bool.not_true, Bool.false_or] at c
  exact c
def spRight : Sp := fun vs H Q _ => ∃ (x1 x2 x3 x4 x5 : V) (d1 d2 d3 d4 d5 : PyData), vs = [x1, x2, x3, x4, x5] ∧ Th H x1 d1 ∧ Th H x2 d2 ∧ Th H x3 d3 ∧ Th H x4 d4 ∧ Th H x5 d5 ∧ ∀ H2, Same H H2 → Q (.bl true) H2
def spBehind : Sp := fun vs H Q _ => ∃ (p s t : Nat), vs = [.int p, .int s, .int ((s : Int) - 1), .int t] ∧ 5 ≤ p ∧ p ≤ 251 ∧ allPrime p = true ∧ 2 ≤ s ∧ s ≤ 8 ∧ 1 ≤ t ∧ t ≤ 3 ∧ ∀ H2, Same H H2 → Q (.bl true) H2
def spLaw (K : PySem.W.Frag) : Sp := fun vs H Q _ => ∃ (a : Addr) (ns : List Int), vs = [.ref a] ∧ SqL K H a (ns.map V.int) ∧ ns.length ≤ 63 ∧ ∀ H2, Q (.bl true) H2
theorem scal_due (d1 d2 d3 d4 d5 : PyData) : scal (dueD d1 d2 d3 d4 d5) (dueD d1 d2 d3 d4 d5) = true := by
  rcases due_cases d1 d2 d3 d4 d5 with h | h | ⟨b, h⟩ <;> rw [h] <;> rfl
theorem primeI {p : Nat} (h0 : 5 ≤ p) (h1 : p ≤ 251) (h2 : allPrime p = true) : isPrimeD (.int p) = true := by
  show ((decide ((5 : Int) ≤ p) && decide ((p : Int) ≤ 251)) && allPrime p) = true
  rw [decide_eq_true (show (5 : Int) ≤ p by omega), decide_eq_true (show (p : Int) ≤ 251 by omega), h2]
  rfl
theorem numsI {s l f b : Int} (h : 1 ≤ s ∧ s ≤ 8) (h2 : 0 ≤ l ∧ l ≤ 60) (h3 : 0 ≤ f ∧ f ≤ 400) (h4 : 0 ≤ b ∧ b ≤ 400) : numsOk (.int s) (.int l) (.int f) (.int b) = true := by
  show ((decide (1 ≤ s) && decide (s ≤ 8)) && ((decide (0 ≤ l) && decide (l ≤ 60)) && ((decide (0 ≤ f) && decide (f ≤ 400)) && (decide (0 ≤ b) && decide (b ≤ 400))))) = true
  rw [decide_eq_true h.1, decide_eq_true h.2, decide_eq_true h2.1, decide_eq_true h2.2, decide_eq_true h3.1, decide_eq_true h3.2, decide_eq_true h4.1, decide_eq_true h4.2]
  rfl
theorem lessN {p s l f b : Nat} : lessI p s l f b = decide ((p + 1) ^ (l * b) < p ^ (s * f)) := by
  unfold lessI
  rw [natInt (a := p) rfl, ← Int.natCast_mul, ← Int.natCast_mul, natInt rfl, natInt rfl]
theorem less_f {p s l f b : Int} (hp : 5 ≤ p) (hs : 0 ≤ s) (hf : 0 ≤ f) (h : lessI p s l f b = true) : lessI p s l (f + 1) b = true := by
  unfold lessI at h ⊢
  have h1 := of_decide_eq_true h
  refine decide_eq_true (Nat.lt_of_lt_of_le h1 (Nat.pow_le_pow_right (by omega) ?_))
  rw [Int.mul_add, Int.mul_one]
  omega
theorem less_l {p s l f b : Int} (hl : 0 ≤ l) (hb : 0 ≤ b) (h : lessI p s l f b = false) : lessI p s (l + 1) f b = false := by
  unfold lessI at h ⊢
  have h1 := of_decide_eq_false h
  refine decide_eq_false fun h2 => h1 (Nat.lt_of_le_of_lt (Nat.pow_le_pow_right (by omega) ?_) h2)
  rw [Int.add_mul, Int.one_mul]
  omega
theorem less_same {p s b : Int} : lessI p s s b b = false := by
  unfold lessI
  exact decide_eq_false (Nat.not_lt.mpr (Nat.pow_le_pow_left (by omega) _))
theorem ThAll.setAt {H : Hp} : ∀ {vs : List V} {ds : List PyData}, ThAll H vs ds → ∀ {v : V} {d : PyData}, Th H v d → ∀ j : Nat, ThAll H (vs.set j v) (ds.set j d)
  | _, _, .nil, _, _, _, j => by
    rw [List.set_nil, List.set_nil]
    exact .nil
  | _, _, .cons _ t, _, _, h, 0 => .cons h t
  | _, _, .cons h0 t, _, _, h, j + 1 => .cons h0 (ThAll.setAt t h j)
theorem asgE {te : TE} {i : Nat} {u : TS} {D : Ends} {σ : L2.St} {H : Hp} (h : te σ H fun v H1 => u D (σ.set i (some v)) H1) : tSeq (tAsg te (gName i)) u D σ H := h
section
variable {P : Program} {w : World} {K : PySem.W.Frag} {mg : Str → Option Value} {base : Heap}
theorem ok_is_right (d : Dn K mg) (B : Bn mg) (M : Nm mg) (T : T67 K mg) : FnOk P w K mg base CX0 7 d.f_is_right d.fd_is_right ["_law_prime", "_law_size", "_law_links", "_law_frames", "_law_beats"] spRight := by
  have G_due := ok_due (P := P) (w := w) (base := base) d B
  have G_told := ok_told (P := P) (w := w) (base := base) d B M T
  refine d.D_is_right.F.ok sc_law_is_right (fun vs H Q E h => ?_) (fun cdv A outer s H vs Q E hr h => ?_)
  · obtain ⟨x1, x2, x3, x4, x5, d1, d2, d3, d4, d5, rfl, _⟩ := h
    rfl
  · obtain ⟨x1, x2, x3, x4, x5, d1, d2, d3, d4, d5, rfl, h1, h2, h3, h4, h5, k⟩ := h
    refine ⟨_, PSs.nox ((pss_cons (ps_set (i := 5) sc_law_is_right.nd rfl (Or.inl rfl) (pe_call G_due (hr.mono (by decide)) (by rfl) d.D_due.g d.D_due.F.kp d.D_due.b .nil pass0 (pa_cons (pv 0) (pa_cons (pv 1) (pa_cons (pv 2) (pa_cons (pv 3) (pa_cons (pv 4) pa_nil)))))))
      (pss_one (ps_ret (pe_cmpR op_eq (pe_call G_told (hr.mono (by decide)) (by rfl) d.D_told.g d.D_told.F.kp d.D_told.b .nil pass0 (pa_cons (pv 0) (pa_cons (pv 1) (pa_cons (pv 2) (pa_cons (pv 3) (pa_cons (pv 4) pa_nil)))))) (pv 5) (nomark _)))))), ?_⟩
    refine ⟨_, rfl, _, rfl, _, rfl, _, rfl, _, rfl, x1, x2, x3, x4, x5, d1, d2, d3, d4, d5, rfl, h1, h2, h3, h4, h5, fun H2 s2 => ?_⟩
    refine ⟨_, rfl, _, rfl, _, rfl, _, rfl, _, rfl, x1, x2, x3, x4, x5, d1, d2, d3, d4, d5, rfl, h1.keep s2, h2.keep s2, h3.keep s2, h4.keep s2, h5.keep s2, fun H3 s3 => ⟨_, rfl, scal_due _ _ _ _ _, ?_⟩⟩
    rw [decide_eq_true rfl]
    exact k H3 (s2.trans s3)
theorem ok_is_behind (d : Dn K mg) (B : Bn mg) (M : Nm mg) (T : T67 K mg) : FnOk P w K mg base CX0 7 d.f_is_behind d.fd_is_behind ["_law_prime", "_law_size", "_law_links", "_law_late"] spBehind := by
  have G_told := ok_told (P := P) (w := w) (base := base) d B M T
  refine d.D_is_behind.F.ok sc_law_is_behind (fun vs H Q E h => ?_) (fun cdv A outer s H vs Q E hr h => ?_)
  · obtain ⟨p, s, t, rfl, _⟩ := h
    rfl
  · obtain ⟨p, s, t, rfl, p0, p1, ap, s0, s1, t0, t1, k⟩ := h
    refine ⟨_, PSs.nox ((pss_cons (ps_set (i := 4) sc_law_is_behind.nd rfl (Or.inl rfl) (pe_op op_mul (pv 3) (pv 1)))
      (pss_cons (ps_for PassesOwn.never rfl (pi_range1 (by rfl) B.rng (pa_cons pe_int pa_nil)) (pg_name (i := 5) sc_law_is_behind.nd rfl (Or.inl rfl))
      (pss_cons (ps_if (PW.pt (pw_and (pt_cmpR op_le (pv 4) pe_int (nomark _)) (pw_and1 (pt_cmpR op_is_bl (pe_call G_told (hr.mono (by decide)) (by rfl) d.D_told.g d.D_told.F.kp d.D_told.b .nil pass0 (pa_cons (pv 0) (pa_cons (pv 1) (pa_cons (pv 2) (pa_cons (pe_callB (call_max2 rfl) (by rfl) B.max boot_max (pa_cons pe_int (pa_cons (pe_op op_sub (pv 4) (pv 3)) pa_nil))) (pa_cons (pv 4) pa_nil)))))) pe_bl (nomark _)))))
      (pss_one (ps_ret pe_bl)) pss_nil)
      (pss_one (ps_set (i := 4) sc_law_is_behind.nd rfl (Or.inl rfl) (pe_op op_add (pe_op op_mul pe_int (pv 4)) pe_int)))))
      (pss_one (ps_ret pe_bl))))), ?_⟩
    have sp : smallPrime (p : Nat) = true := by rw [primes_same (by omega) (by omega)]; exact ap
    have all := behind_all p (by omega) p0 sp s (by omega) s0 t (by omega) t0
    refine ⟨_, rfl, _, rfl, (t : Int), (s : Int), rfl, rfl, Or.inl (by omega), ?_⟩
    refine ⟨9, rfl, by decide, by decide, for_range (lo := 0) (n := 9) (fun i σ2 H2 => ∃ (v5 : Option V), σ2 = [some (.int p), some (.int s), some (.int ((s : Int) - 1)), some (.int t), some (.int (bN t s i)), v5] ∧ Same H H2 ∧ ∀ j < i, (decide (bN t s j ≤ 400) && decide ((p + 1) ^ ((s - 1) * bN t s j) < p ^ (s * (bN t s j - t)))) = false)
      ⟨_, by rw [show bN t s 0 = t * s from rfl, Int.natCast_mul]; rfl, Same.refl _, fun j hj => by omega⟩ ?_ ?_⟩
    · rintro i σ2 H2 hi ⟨v5, rfl, s2, hall⟩
      have go : (decide (bN t s i ≤ 400) && decide ((p + 1) ^ ((s - 1) * bN t s i) < p ^ (s * (bN t s i - t)))) = false → ∀ H3, Same H H3 → ∃ (v5 : Option V), [some (V.int p), some (.int s), some (.int ((s : Int) - 1)), some (.int t), some (.int (2 * (bN t s i : Int) + 1)), some (.int (0 + (i : Int)))] = [some (.int p), some (.int s), some (.int ((s : Int) - 1)), some (.int t), some (.int (bN t s (i + 1))), v5] ∧ Same H H3 ∧ ∀ j < i + 1, (decide (bN t s j ≤ 400) && decide ((p + 1) ^ ((s - 1) * bN t s j) < p ^ (s * (bN t s j - t)))) = false := fun h H3 s3 =>
        ⟨_, by
          have e : (bN t s (i + 1) : Int) = 2 * (bN t s i : Int) + 1 := by
            show ((2 * bN t s i + 1 : Nat) : Int) = _
            omega
          rw [e], s3, fun j hj => by
          by_cases e : j = i
          · rw [e]
            exact h
          · exact hall j (by omega)⟩
      refine ⟨_, rfl, (bN t s i : Int), 400, rfl, rfl, _, rfl, ?_⟩
      by_cases hb : bN t s i ≤ 400
      · rw [decide_eq_true (show (bN t s i : Int) ≤ 400 by omega)]
        refine iteT ⟨_, rfl, _, rfl, _, rfl, _, rfl, _, rfl, (bN t s i : Int), (t : Int), rfl, rfl, 0, _, rfl, _, rfl, ?_⟩
        have em : (if (bN t s i : Int) - (t : Int) > 0 then (bN t s i : Int) - (t : Int) else 0) = ((bN t s i - t : Nat) : Int) := by split <;> omega
        rw [em]
        have el : (s : Int) - 1 = ((s - 1 : Nat) : Int) := by omega
        refine ⟨_, _, _, _, _, PyData.int p, PyData.int s, PyData.int ((s : Int) - 1), PyData.int ((bN t s i - t : Nat) : Int), PyData.int (bN t s i), rfl, .int _, .int _, .int _, .int _, .int _, fun H3 s3 => ?_⟩
        rw [due_bl (primeI p0 p1 ap) (numsI (by omega) (by omega) (by omega) (by omega)), el, lessN]
        refine ⟨_, true, rfl, rfl, _, rfl, ?_⟩
        cases hl : decide ((p + 1) ^ ((s - 1) * bN t s i) < p ^ (s * (bN t s i - t))) with
        | true => exact iteT (k H3 (s2.trans s3))
        | false =>
          refine iteF ⟨_, rfl, 2, (bN t s i : Int), rfl, rfl, Or.inl (by decide), _, 1, rfl, rfl, ?_⟩
          have g := go (by rw [hl, Bool.and_false]) H3 (s2.trans s3)
          rw [el] at g
          exact g
      · rw [decide_eq_false (show ¬ (bN t s i : Int) ≤ 400 by omega)]
        refine iteF (iteF ⟨_, rfl, 2, (bN t s i : Int), rfl, rfl, Or.inl (by decide), _, 1, rfl, rfl, ?_⟩)
        exact go (by rw [decide_eq_false hb, Bool.false_and]) H2 s2
    · rintro σ2 H2 ⟨v5, rfl, s2, hall⟩
      obtain ⟨j, hj, hj2⟩ := List.any_eq_true.mp all
      have := hall j (List.mem_range.mp hj)
      rw [this] at hj2
      cases hj2
theorem ok_law (d : Dn K mg) (B : Bn mg) (M : Nm mg) (T : T67 K mg) : FnOk P w K mg base CX0 8 d.f_law d.fd_law ["_law_script"] (spLaw K) := by
  have G_deck := ok_deck (P := P) (w := w) (base := base) d B
  have G_draw := ok_draw (P := P) (w := w) (base := base) d B
  have G_primes := ok_primes (P := P) (w := w) (base := base) d B
  have G_is_right := ok_is_right (P := P) (w := w) (base := base) d B M T
  have G_is_behind := ok_is_behind (P := P) (w := w) (base := base) d B M T
  have G_too_few := ok_too_few (P := P) (w := w) (base := base) d B M T.XP T.XN
  refine d.D_law.F.ok sclaw (fun vs H Q E h => ?_) (fun cdv A outer s H vs Q E hr h => ?_)
  · obtain ⟨a, ns, rfl, _⟩ := h
    rfl
  · obtain ⟨a, ns, rfl, hS, hlen, k⟩ := h
    refine ⟨_, PSs.nox ((pss_cons (ps_set (i := 1) sclaw.nd rfl (Or.inl rfl) (pe_call G_deck (hr.mono (by decide)) (by rfl) d.D_deck.g d.D_deck.F.kp d.D_deck.b .nil pass0 (pa_cons (pv 0) pa_nil)))
      (pss_cons (ps_set (i := 2) sclaw.nd rfl (Or.inl rfl) (pe_call0 G_primes (hr.mono (by decide)) (by rfl) d.D_primes.g d.D_primes.F.kp d.D_primes.b .nil pass0 ))
      (pss_cons (ps_set (i := 3) sclaw.nd rfl (Or.inl rfl) (pe_ix ix_list (pv 2) (pe_call G_draw (hr.mono (by decide)) (by rfl) d.D_draw.g d.D_draw.F.kp d.D_draw.b .nil pass0 (pa_cons (pv 1) (pa_cons (pe_ix ix_list (pe_lst (pa_cons pe_int (pa_cons (pe_callB call_len_seq (by rfl) B.len PySem.boot_len (pa_cons (pv 2) pa_nil)) pa_nil))) (pe_call G_draw (hr.mono (by decide)) (by rfl) d.D_draw.g d.D_draw.F.kp d.D_draw.b .nil pass0 (pa_cons (pv 1) (pa_cons pe_int pa_nil))) (fun _ _ => rfl)) pa_nil))) (fun _ _ => rfl)))
      (pss_cons (ps_set (i := 4) sclaw.nd rfl (Or.inl rfl) (pe_op op_add pe_int (pe_call G_draw (hr.mono (by decide)) (by rfl) d.D_draw.g d.D_draw.F.kp d.D_draw.b .nil pass0 (pa_cons (pv 1) (pa_cons pe_int pa_nil)))))
      (pss_cons (ps_set (i := 5) sclaw.nd rfl (Or.inl rfl) (pe_ix ix_list (pe_lst (pa_cons (pv 4) (pa_cons (pe_op op_sub (pv 4) pe_int) (pa_cons (pe_call G_draw (hr.mono (by decide)) (by rfl) d.D_draw.g d.D_draw.F.kp d.D_draw.b .nil pass0 (pa_cons (pv 1) (pa_cons pe_int pa_nil))) (pa_cons (pe_call G_draw (hr.mono (by decide)) (by rfl) d.D_draw.g d.D_draw.F.kp d.D_draw.b .nil pass0 (pa_cons (pv 1) (pa_cons pe_int pa_nil))) pa_nil))))) (pe_call G_draw (hr.mono (by decide)) (by rfl) d.D_draw.g d.D_draw.F.kp d.D_draw.b .nil pass0 (pa_cons (pv 1) (pa_cons pe_int pa_nil))) (fun _ _ => rfl)))
      (pss_cons (ps_set (i := 6) sclaw.nd rfl (Or.inl rfl) (pe_lst (pa_cons (pe_call G_draw (hr.mono (by decide)) (by rfl) d.D_draw.g d.D_draw.F.kp d.D_draw.b .nil pass0 (pa_cons (pv 1) (pa_cons pe_int pa_nil))) (pa_cons (pe_call G_draw (hr.mono (by decide)) (by rfl) d.D_draw.g d.D_draw.F.kp d.D_draw.b .nil pass0 (pa_cons (pv 1) (pa_cons pe_int pa_nil))) (pa_cons (pe_call G_draw (hr.mono (by decide)) (by rfl) d.D_draw.g d.D_draw.F.kp d.D_draw.b .nil pass0 (pa_cons (pv 1) (pa_cons pe_int pa_nil))) (pa_cons pe_int pa_nil))))))
      (pss_cons (ps_set (i := 6) sclaw.nd rfl (Or.inl rfl) (pe_ix ix_list (pv 6) (pe_ix ix_list (pe_lst (pa_cons pe_int (pa_cons pe_int (pa_cons pe_int (pa_cons pe_int (pa_cons pe_int (pa_cons pe_int (pa_cons pe_int (pa_cons pe_int pa_nil))))))))) (pe_call G_draw (hr.mono (by decide)) (by rfl) d.D_draw.g d.D_draw.F.kp d.D_draw.b .nil pass0 (pa_cons (pv 1) (pa_cons pe_int pa_nil))) (fun _ _ => rfl)) (fun _ _ => rfl)))
      (pss_cons (ps_set (i := 7) sclaw.nd rfl (Or.inl rfl) (pe_callB (call_max2 rfl) (by rfl) B.max boot_max (pa_cons pe_int (pa_cons (pe_callB (call_min2 rfl) (by rfl) B.min boot_min (pa_cons pe_int (pa_cons (pe_op op_sub (pe_op op_add (pe_op op_fdiv (pe_op op_mul (pv 5) (pv 6)) (pv 4)) (pe_call G_draw (hr.mono (by decide)) (by rfl) d.D_draw.g d.D_draw.F.kp d.D_draw.b .nil pass0 (pa_cons (pv 1) (pa_cons pe_int pa_nil)))) pe_int) pa_nil))) pa_nil))))
      (C8.pss_cut (ps_if (pt_cmpR op_eq (pe_call G_draw (hr.mono (by decide)) (by rfl) d.D_draw.g d.D_draw.F.kp d.D_draw.b .nil pass0 (pa_cons (pv 1) (pa_cons pe_int pa_nil))) pe_int (nomark _))
      (pss_one (ps_set (i := 7) sclaw.nd rfl (Or.inl rfl) (pe_call G_draw (hr.mono (by decide)) (by rfl) d.D_draw.g d.D_draw.F.kp d.D_draw.b .nil pass0 (pa_cons (pv 1) (pa_cons pe_int pa_nil))))) pss_nil) (pss_cons (ps_if (pt_not (pt_val (pe_call G_is_right (hr.mono (by decide)) (by rfl) d.D_is_right.g d.D_is_right.F.kp d.D_is_right.b .nil pass0 (pa_cons (pv 3) (pa_cons (pv 4) (pa_cons (pv 5) (pa_cons (pv 7) (pa_cons (pv 6) pa_nil))))))))
      (pss_one (ps_ret pe_bl)) pss_nil)
      (pss_cons (ps_set (i := 8) sclaw.nd rfl (Or.inl rfl) (pe_call G_too_few (hr.mono (by decide)) (by rfl) d.D_too_few.g d.D_too_few.F.kp d.D_too_few.b .nil passL (pa_cons (pv 3) (pa_cons (pv 4) (pa_cons (pv 5) (pa_cons (pv 7) (pa_cons (pv 6) pa_nil)))))))
      (C8.pss_cut (ps_if (PW.pt (pw_and (pt_val (pv 8)) (pw_and (pt_cmpR op_lt (pv 7) pe_int (nomark _)) (pw_and1 (pt_cmpR op_isnot_bl (pe_call G_too_few (hr.mono (by decide)) (by rfl) d.D_too_few.g d.D_too_few.F.kp d.D_too_few.b .nil passL (pa_cons (pv 3) (pa_cons (pv 4) (pa_cons (pv 5) (pa_cons (pe_op op_add (pv 7) pe_int) (pa_cons (pv 6) pa_nil)))))) pe_bl (nomark _))))))
      (pss_one (ps_ret pe_bl)) pss_nil) (C8.pss_cut (ps_if (PW.pt (pw_and (pt_not (pt_val (pv 8))) (pw_and (pt_cmpR op_lt (pv 5) pe_int (nomark _)) (pw_and1 (pt_cmpR op_isnot_bl (pe_call G_too_few (hr.mono (by decide)) (by rfl) d.D_too_few.g d.D_too_few.F.kp d.D_too_few.b .nil passL (pa_cons (pv 3) (pa_cons (pv 4) (pa_cons (pe_op op_add (pv 5) pe_int) (pa_cons (pv 7) (pa_cons (pv 6) pa_nil)))))) pe_bl (nomark _))))))
      (pss_one (ps_ret pe_bl)) pss_nil) (pss_cons (ps_if (pt_cmpR op_isnot_bl (pe_call G_too_few (hr.mono (by decide)) (by rfl) d.D_too_few.g d.D_too_few.F.kp d.D_too_few.b .nil passL (pa_cons (pv 3) (pa_cons (pv 4) (pa_cons (pv 4) (pa_cons (pv 6) (pa_cons (pv 6) pa_nil)))))) pe_bl (nomark _))
      (pss_one (ps_ret pe_bl)) pss_nil)
      (C8.pss_cut (ps_if (PW.pt (pw_and (pt_cmpR op_gt (pv 4) pe_int (nomark _)) (pw_and1 (pt_not (pt_val (pe_call G_is_behind (hr.mono (by decide)) (by rfl) d.D_is_behind.g d.D_is_behind.F.kp d.D_is_behind.b .nil pass0 (pa_cons (pv 3) (pa_cons (pv 4) (pa_cons (pe_op op_sub (pv 4) pe_int) (pa_cons (pe_op op_add pe_int (pe_call G_draw (hr.mono (by decide)) (by rfl) d.D_draw.g d.D_draw.F.kp d.D_draw.b .nil pass0 (pa_cons (pv 1) (pa_cons pe_int pa_nil)))) pa_nil))))))))))
      (pss_one (ps_ret pe_bl)) pss_nil) (pss_cons (ps_set (i := 9) sclaw.nd rfl (Or.inl rfl) (pe_lst (pa_cons pe_int (pa_cons (pe_un un_neg pe_int) (pa_cons pe_int (pa_cons pe_int (pa_cons pe_int (pa_cons pe_int (pa_cons pe_int (pa_cons pe_int (pa_cons pe_bl (pa_cons pe_non (pa_cons pe_str (pa_cons (pe_op op_pow pe_int pe_int) (pa_cons (pe_tup (pa_cons pe_int pa_nil)) (pa_cons pe_int pa_nil))))))))))))))))
      (pss_cons (ps_for PassesOwn.never rfl (pi_range1 (by rfl) B.rng (pa_cons pe_int pa_nil)) (pg_name (i := 10) sclaw.nd rfl (Or.inl rfl))
      (pss_cons (ps_set (i := 11) sclaw.nd rfl (Or.inl rfl) (pe_lst (pa_cons (pv 3) (pa_cons (pv 4) (pa_cons (pv 5) (pa_cons (pv 7) (pa_cons (pv 6) pa_nil)))))))
      (pss_cons (ps_for PassesOwn.never rfl (pi_range1 (by rfl) B.rng (pa_cons (pe_op op_add pe_int (pe_call G_draw (hr.mono (by decide)) (by rfl) d.D_draw.g d.D_draw.F.kp d.D_draw.b .nil pass0 (pa_cons (pv 1) (pa_cons pe_int pa_nil)))) pa_nil)) (pg_name (i := 12) sclaw.nd rfl (Or.inl rfl))
      (pss_one (ps_asg (pe_ix ix_list (pv 9) (pe_call G_draw (hr.mono (by decide)) (by rfl) d.D_draw.g d.D_draw.F.kp d.D_draw.b .nil pass0 (pa_cons (pv 1) (pa_cons pe_int pa_nil))) (fun _ _ => rfl)) (pg_sub (pv 11) (pe_call G_draw (hr.mono (by decide)) (by rfl) d.D_draw.g d.D_draw.F.kp d.D_draw.b .nil pass0 (pa_cons (pv 1) (pa_cons pe_int pa_nil))) set_list))))
      (pss_one (ps_if (pt_not (pt_val (pe_call G_is_right (hr.mono (by decide)) (by rfl) d.D_is_right.g d.D_is_right.F.kp d.D_is_right.b .nil pass0 (pa_cons (pe_ix ix_list (pv 11) pe_int (fun _ _ => rfl)) (pa_cons (pe_ix ix_list (pv 11) pe_int (fun _ _ => rfl)) (pa_cons (pe_ix ix_list (pv 11) pe_int (fun _ _ => rfl)) (pa_cons (pe_ix ix_list (pv 11) pe_int (fun _ _ => rfl)) (pa_cons (pe_ix ix_list (pv 11) pe_int (fun _ _ => rfl)) pa_nil))))))))
      (pss_one (ps_ret pe_bl)) pss_nil)))))
      (pss_one (ps_ret pe_bl)))))))))))))))))))), ?_⟩
    refine ⟨_, rfl, a, ns, rfl, hS, hlen, fun dk H1 ndk s1 hD => ?_⟩
    refine ⟨rfl, fun P0 H2 s2 hP => ?_⟩
    have hD2 := hD.keep s2
    refine ⟨_, rfl, _, rfl, _, rfl, P0, _, rfl, Or.inl (SqL.of hP), by show 2 ≤ sizeLine; decide, fun L nL => ?_⟩
    have sL := sameNew (o := HO.lst [V.int 4, V.int ((primesL.map V.int).length : Int)]) nL
    refine ⟨_, rfl, dk, 2, rfl, by decide, by decide, hD2.keep sL, fun j hj => ?_⟩
    have pl : (primesL.map V.int).length = 52 := by rw [List.length_map, primes_len]
    obtain ⟨m, m0, m1, hm⟩ : ∃ m : Int, 0 < m ∧ m ≤ 52 ∧ [V.int 4, V.int ((primesL.map V.int).length : Int)][j]? = some (.int m) := by
      have hj2 : j = 0 ∨ j = 1 := by omega
      rcases hj2 with rfl | rfl
      · exact ⟨4, by decide, by decide, rfl⟩
      · exact ⟨((primesL.map V.int).length : Int), by rw [pl]; decide, by rw [pl]; decide, rfl⟩
    refine ⟨L, _, (j : Int), _, rfl, rfl, SqL.of upd_same, atI_nat hm, dk, m, rfl, m0, by omega, hD2.keep sL, fun r hr2 => ?_⟩
    have hr3 : r < primesL.length := by rw [primes_len]; omega
    obtain ⟨pz, hpz⟩ : ∃ pz, primesL[r]? = some pz := ⟨_, List.getElem?_eq_getElem hr3⟩
    have hpm := List.mem_of_getElem? hpz
    have hpc : primesL.contains pz = true := List.contains_iff_mem.mpr hpm
    rw [inPrimes, Bool.and_eq_true, Bool.and_eq_true, decide_eq_true_eq, decide_eq_true_eq] at hpc
    obtain ⟨⟨pz0, pz1⟩, pz2⟩ := hpc
    obtain ⟨p, rfl⟩ : ∃ p : Nat, pz = p := ⟨pz.toNat, by omega⟩
    have p0 : 5 ≤ p := by omega
    have p1 : p ≤ 251 := by omega
    refine ⟨P0, _, (r : Int), .int p, rfl, rfl, SqL.of (sL _ _ hP), atI_nat (by rw [List.getElem?_map, hpz]; rfl), ?_⟩
    refine ⟨_, rfl, dk, 8, rfl, by decide, by decide, hD2.keep sL, fun s8 hs8 => ⟨_, _, rfl, rfl, ?_⟩⟩
    have hs82 : s8 < 8 := by omega
    have sA := sL
    have hDL := hD2.keep sL
    refine ⟨_, rfl, _, rfl, _, 1, rfl, rfl, _, rfl, dk, 9, rfl, by decide, by decide, hDL, fun k9 h9 => ⟨_, rfl, dk, 61, rfl, by decide, by decide, hDL, fun k61 h61 => ⟨by show 4 ≤ sizeLine; decide, fun L4 nL4 => ?_⟩⟩⟩
    have s4 := sameNew (o := HO.lst [V.int (1 + (s8 : Int)), V.int (1 + (s8 : Int) - 1), V.int k9, V.int k61]) nL4
    refine ⟨_, rfl, dk, 4, rfl, by decide, by decide, hDL.keep s4, fun j4 h4 => ?_⟩
    obtain ⟨lz, l0, l1, hl⟩ : ∃ lz : Int, 0 ≤ lz ∧ lz ≤ 60 ∧ [V.int (1 + (s8 : Int)), V.int (1 + (s8 : Int) - 1), V.int k9, V.int k61][j4]? = some (.int lz) := by
      have c : j4 = 0 ∨ j4 = 1 ∨ j4 = 2 ∨ j4 = 3 := by omega
      rcases c with rfl | rfl | rfl | rfl
      · exact ⟨_, by omega, by omega, rfl⟩
      · exact ⟨_, by omega, by omega, rfl⟩
      · exact ⟨_, by omega, by omega, rfl⟩
      · exact ⟨_, by omega, by omega, rfl⟩
    refine ⟨L4, _, (j4 : Int), _, rfl, rfl, SqL.of upd_same, atI_nat hl, ?_⟩
    have hD4 := hDL.keep s4
    refine ⟨_, rfl, dk, 12, rfl, by decide, by decide, hD4, fun a1 ha1 => ⟨_, rfl, dk, 60, rfl, by decide, by decide, hD4, fun a2 ha2 => ⟨_, rfl, dk, 401, rfl, by decide, by decide, hD4, fun a3 ha3 => ⟨by show 4 ≤ sizeLine; decide, fun L5 nL5 => ?_⟩⟩⟩⟩
    have s5 := sameNew (o := HO.lst [V.int a1, V.int a2, V.int a3, V.int 400]) nL5
    refine ⟨_, rfl, by show 8 ≤ sizeLine; decide, fun L6 nL6 => ?_⟩
    have s6 := sameNew (o := HO.lst [V.int 0, V.int 0, V.int 0, V.int 0, V.int 1, V.int 1, V.int 2, V.int 3]) nL6
    refine ⟨_, rfl, dk, 8, rfl, by decide, by decide, (hD4.keep s5).keep s6, fun j8 h8 => ?_⟩
    obtain ⟨jz, jz1, hjz⟩ : ∃ jz : Nat, jz < 4 ∧ [V.int 0, V.int 0, V.int 0, V.int 0, V.int 1, V.int 1, V.int 2, V.int 3][j8]? = some (.int (jz : Int)) := by
      have c : j8 = 0 ∨ j8 = 1 ∨ j8 = 2 ∨ j8 = 3 ∨ j8 = 4 ∨ j8 = 5 ∨ j8 = 6 ∨ j8 = 7 := by omega
      rcases c with rfl | rfl | rfl | rfl | rfl | rfl | rfl | rfl
      · exact ⟨0, by decide, rfl⟩
      · exact ⟨0, by decide, rfl⟩
      · exact ⟨0, by decide, rfl⟩
      · exact ⟨0, by decide, rfl⟩
      · exact ⟨1, by decide, rfl⟩
      · exact ⟨1, by decide, rfl⟩
      · exact ⟨2, by decide, rfl⟩
      · exact ⟨3, by decide, rfl⟩
    obtain ⟨bz, b0, b1, hbz⟩ : ∃ bz : Int, 0 ≤ bz ∧ bz ≤ 400 ∧ [V.int a1, V.int a2, V.int a3, V.int 400][jz]? = some (.int bz) := by
      have c : jz = 0 ∨ jz = 1 ∨ jz = 2 ∨ jz = 3 := by omega
      rcases c with rfl | rfl | rfl | rfl
      · exact ⟨_, by omega, by omega, rfl⟩
      · exact ⟨_, by omega, by omega, rfl⟩
      · exact ⟨_, by omega, by omega, rfl⟩
      · exact ⟨_, by omega, by omega, rfl⟩
    refine ⟨L6, _, (j8 : Int), _, rfl, rfl, SqL.of upd_same, atI_nat hjz, L5, _, (jz : Int), .int bz, rfl, rfl, SqL.of (s6 _ _ upd_same), atI_nat hbz, ?_⟩
    have hD6 := (hD4.keep s5).keep s6
    refine ⟨_, rfl, _, rfl, lz, bz, rfl, rfl, Or.inl (by omega), _, rfl, _, _, rfl, rfl, ⟨by omega, by omega⟩, _, rfl, dk, 5, rfl, by decide, by decide, hD6, fun a5 ha5 => ⟨_, _, rfl, rfl, _, 2, rfl, rfl, 400, _, rfl, 0, _, rfl, ?_⟩⟩
    obtain ⟨G, hG⟩ : ∃ G, G = upd (upd (upd (upd H2 L (.lst [V.int 4, V.int ((primesL.map V.int).length : Int)])) L4 (.lst [V.int (1 + (s8 : Int)), V.int (1 + (s8 : Int) - 1), V.int k9, V.int k61])) L5 (.lst [V.int a1, V.int a2, V.int a3, V.int 400])) L6 (.lst [V.int 0, V.int 0, V.int 0, V.int 0, V.int 1, V.int 1, V.int 2, V.int 3]) := ⟨_, rfl⟩
    rw [← hG] at hD6 ⊢
    refine ⟨fun σ2 G2 => ∃ fz : Int, (0 ≤ fz ∧ fz ≤ 400) ∧ σ2 = [some (.ref a), some (.ref dk), some (.ref P0), some (.int p), some (.int (1 + (s8 : Int))), some (.int lz), some (.int bz), some (.int fz), none, none, none, none, none] ∧ G2 = G, ?_, ?_⟩
    · refine ⟨_, rfl, dk, 3, rfl, by decide, by decide, hD6, fun a6 h6 => ⟨rfl, _, rfl, ite2 (fun _ => ?_) (fun _ => ?_)⟩⟩
      · exact ⟨_, rfl, dk, 40, rfl, by decide, by decide, hD6, fun a40 h40 => ⟨(a40 : Int), by omega, rfl, rfl⟩⟩
      · refine ⟨_, ?_, rfl, rfl⟩
        constructor
        · split <;> omega
        · split
          · split <;> omega
          · omega
    rintro σ2 G2 ⟨fz, ⟨f0, f1⟩, rfl, rfl⟩
    have S0 : (1 : Int) ≤ 1 + (s8 : Int) := by omega
    have S1 : 1 + (s8 : Int) ≤ 8 := by omega
    have pI := primeI p0 p1 pz2
    refine ⟨_, rfl, _, rfl, _, rfl, _, rfl, _, rfl, _, _, _, _, _, PyData.int p, PyData.int (1 + (s8 : Int)), PyData.int lz, PyData.int fz, PyData.int bz, rfl, .int _, .int _, .int _, .int _, .int _, fun H3 s3 => ⟨_, rfl, iteF ?_⟩⟩
    have due : ∀ {l f b : Int}, 0 ≤ l ∧ l ≤ 60 → 0 ≤ f ∧ f ≤ 400 → 0 ≤ b ∧ b ≤ 400 → dueD (.int p) (.int (1 + (s8 : Int))) (.int l) (.int f) (.int b) = .bl (lessI p (1 + (s8 : Int)) l f b) := fun hl hf hb => due_bl pI (numsI ⟨S0, S1⟩ hl hf hb)
    have call : ∀ {l f b : Int} {H4 : Hp} {Q4 : VK} {E4 : XK}, 0 ≤ l ∧ l ≤ 60 → 0 ≤ f ∧ f ≤ 400 → 0 ≤ b ∧ b ≤ 400 → (∀ H5, Same H4 H5 → Q4 (.bl (lessI p (1 + (s8 : Int)) l f b)) H5) → spTooFew K [.int p, .int (1 + (s8 : Int)), .int l, .int f, .int b] H4 Q4 E4 := fun hl hf hb kk => by
      refine ⟨_, _, _, _, _, _, _, _, _, _, rfl, .int _, .int _, .int _, .int _, .int _, fun h => ?_, fun h => ?_, fun b hb2 H5 s5 => ?_⟩
      · rw [due hl hf hb] at h
        cases h
      · rw [due hl hf hb] at h
        cases h
      · rw [due hl hf hb] at hb2
        cases hb2
        exact kk H5 s5
    refine ⟨_, rfl, _, rfl, _, rfl, _, rfl, _, rfl, ?_⟩
    dsimp only [tNil, List.nil_append, List.cons_append, List.append_nil]
    refine call ⟨l0, l1⟩ ⟨f0, f1⟩ ⟨b0, b1⟩ fun H4 s4 => ?_
    have s34 := s3.trans s4
    refine ⟨fun σ5 H5 => σ5 = [some (.ref a), some (.ref dk), some (.ref P0), some (.int p), some (.int (1 + (s8 : Int))), some (.int lz), some (.int bz), some (.int fz), some (.bl (lessI p (1 + (s8 : Int)) lz fz bz)), none, none, none, none] ∧ Same G2 H5, ?_, ?_⟩
    · refine ⟨_, rfl, _, rfl, ?_⟩
      cases hb : lessI p (1 + (s8 : Int)) lz fz bz with
      | false => exact iteF (iteF ⟨rfl, s34⟩)
      | true =>
        refine iteT ⟨_, rfl, fz, 400, rfl, rfl, _, rfl, ite2 (fun hlt => ?_) (fun _ => iteF ⟨rfl, s34⟩)⟩
        have hlt2 := of_decide_eq_true hlt
        refine ⟨_, rfl, _, rfl, _, rfl, _, rfl, fz, 1, rfl, rfl, _, rfl, ?_⟩
        dsimp only [tNil, List.nil_append, List.cons_append, List.append_nil]
        refine call ⟨l0, l1⟩ ⟨by omega, by omega⟩ ⟨b0, b1⟩ fun H5 s5' => ?_
        rw [less_f (by omega) (by omega) f0 hb]
        exact ⟨true, true, rfl, rfl, _, rfl, iteF ⟨rfl, s34.trans s5'⟩⟩
    rintro σ5 H5 ⟨rfl, s5a⟩
    refine ⟨fun σ6 H6 => σ6 = [some (.ref a), some (.ref dk), some (.ref P0), some (.int p), some (.int (1 + (s8 : Int))), some (.int lz), some (.int bz), some (.int fz), some (.bl (lessI p (1 + (s8 : Int)) lz fz bz)), none, none, none, none] ∧ Same G2 H6, ?_, ?_⟩
    · refine ⟨_, rfl, _, rfl, ?_⟩
      cases hb : lessI p (1 + (s8 : Int)) lz fz bz with
      | true => exact iteF (iteF ⟨rfl, s5a⟩)
      | false =>
        refine iteT ⟨_, rfl, lz, 60, rfl, rfl, _, rfl, ite2 (fun hlt => ?_) (fun _ => iteF ⟨rfl, s5a⟩)⟩
        have hlt2 := of_decide_eq_true hlt
        refine ⟨_, rfl, _, rfl, _, rfl, lz, 1, rfl, rfl, _, rfl, _, rfl, ?_⟩
        dsimp only [tNil, List.nil_append, List.cons_append, List.append_nil]
        refine call ⟨by omega, by omega⟩ ⟨f0, f1⟩ ⟨b0, b1⟩ fun H6 s6' => ?_
        rw [less_l l0 b0 hb]
        exact ⟨false, false, rfl, rfl, _, rfl, iteF ⟨rfl, s5a.trans s6'⟩⟩
    rintro σ6 H6 ⟨rfl, s6a⟩
    refine ⟨_, rfl, _, rfl, _, rfl, _, rfl, _, rfl, ?_⟩
    dsimp only [tNil, List.nil_append, List.cons_append, List.append_nil]
    refine call ⟨by omega, by omega⟩ ⟨b0, b1⟩ ⟨b0, b1⟩ fun H7 s7 => ?_
    rw [less_same]
    refine ⟨false, false, rfl, rfl, _, rfl, iteF ?_⟩
    have s67 := s6a.trans s7
    have hD7 := hD6.keep s67
    refine ⟨fun σ8 H8 => σ8 = [some (.ref a), some (.ref dk), some (.ref P0), some (.int p), some (.int (1 + (s8 : Int))), some (.int lz), some (.int bz), some (.int fz), some (.bl (lessI p (1 + (s8 : Int)) lz fz bz)), none, none, none, none] ∧ Same G2 H8, ?_, ?_⟩
    · refine ⟨_, rfl, _, 1, rfl, rfl, _, rfl, ite2 (fun hgt => ?_) (fun _ => iteF ⟨rfl, s67⟩)⟩
      have hgt2 := of_decide_eq_true hgt
      refine ⟨_, rfl, _, rfl, _, rfl, _, 1, rfl, rfl, _, rfl, dk, 3, rfl, by decide, by decide, hD7, fun t3 ht3 => ⟨1, (t3 : Int), rfl, rfl, ?_⟩⟩
      exact ⟨p, 1 + s8, 1 + t3, rfl, p0, p1, pz2, by omega, by omega, by omega, by omega, fun H8 s8' => ⟨_, rfl, iteF ⟨rfl, s67.trans s8'⟩⟩⟩
    rintro σ8 H8 ⟨rfl, s8a⟩
    have hD8 := hD6.keep s8a
    refine asgE (lstX (.cons .int (.cons .neg (.cons .int (.cons .int (.cons .int (.cons .int (.cons .int (.cons .int (.cons .bl (.cons .non (.cons .str (.cons (.pow ⟨by decide, by decide, by decide⟩) (.cons (.tup (.cons .int .nil)) (.cons .int .nil)))))))))))))) (by decide) fun O vO H9 nO s9 hO hOs => ?_)
    have hD9 := hD8.keep s9
    have lO : vO.length = 14 := hOs.length
    refine ⟨3, rfl, by decide, by decide, for_range (lo := 0) (n := 3) (fun i σ2 G2 => ∃ (v10 v11 v12 : Option V), σ2 = [some (.ref a), some (.ref dk), some (.ref P0), some (.int p), some (.int (1 + (s8 : Int))), some (.int lz), some (.int bz), some (.int fz), some (.bl (lessI p (1 + (s8 : Int)) lz fz bz)), some (.ref O), v10, v11, v12] ∧ Same H9 G2) ⟨_, _, _, rfl, Same.refl _⟩ ?_ ?_⟩
    · rintro i σ2 G3 hi ⟨v10, v11, v12, rfl, sG⟩
      refine ⟨_, rfl, _, rfl, _, rfl, _, rfl, _, rfl, by show 5 ≤ sizeLine; decide, fun so nso => ?_⟩
      have nso9 : H9 so = none := sG.free nso
      have base5 : ThAll H9 [V.int p, V.int (1 + (s8 : Int)), V.int lz, V.int fz, V.int bz] [.int p, .int (1 + (s8 : Int)), .int lz, .int fz, .int bz] := .cons (.int _) (.cons (.int _) (.cons (.int _) (.cons (.int _) (.cons (.int _) .nil))))
      refine ⟨_, rfl, dk, 2, rfl, by decide, by decide, (hD9.keep sG).keep (sameNew nso), fun tk htk => ⟨1, (tk : Int), rfl, rfl, _, rfl, by omega, by omega, ?_⟩⟩
      refine for_range (lo := 0) (n := (1 + (tk : Int)).toNat) (fun j σ4 G4 => ∃ (v12 : Option V) (us : List V) (ds : List PyData), σ4 = [some (.ref a), some (.ref dk), some (.ref P0), some (.int p), some (.int (1 + (s8 : Int))), some (.int lz), some (.int bz), some (.int fz), some (.bl (lessI p (1 + (s8 : Int)) lz fz bz)), some (.ref O), some (.int (0 + (i : Int))), some (.ref so), v12] ∧ Same H9 G4 ∧ G4 so = some (.lst us) ∧ ThAll H9 us ds ∧ us.length = 5)
        ⟨_, _, _, rfl, samePast sG nso, upd_same, base5, rfl⟩ ?_ ?_
      · rintro j σ4 G4 hj ⟨v12, us, ds, rfl, s4, hus, hth, hul⟩
        have hD4' := hD9.keep s4
        refine ⟨_, rfl, _, rfl, dk, 14, rfl, by decide, by decide, hD4', fun rO hrO => ?_⟩
        have hr14 : rO < vO.length := by rw [lO]; omega
        obtain ⟨dd, hdd, htt⟩ := hOs.get (List.getElem?_eq_getElem hr14)
        refine ⟨O, _, (rO : Int), vO[rO], rfl, rfl, SqL.of (s4 _ _ hO), atI_nat (List.getElem?_eq_getElem hr14), ?_⟩
        refine ⟨_, rfl, _, rfl, dk, 5, rfl, by decide, by decide, hD4', fun r5 hr5 => ?_⟩
        refine ⟨so, us, (r5 : Int), r5, rfl, rfl, hus, ?_, ?_⟩
        · rw [hul]
          unfold ixN
          rw [if_pos (by omega), if_pos (by omega)]
          simp
        · exact ⟨_, _, _, rfl, samePut s4 nso9, upd_same, ThAll.setAt hth htt r5, by rw [List.length_set]; exact hul⟩
      · rintro σ4 G4 ⟨v12, us, ds, rfl, s4, hus, hth, hul⟩
        obtain ⟨y1, y2, y3, y4, y5, rfl⟩ : ∃ y1 y2 y3 y4 y5, us = [y1, y2, y3, y4, y5] := by
          match us, hul with
          | [y1, y2, y3, y4, y5], _ => exact ⟨y1, y2, y3, y4, y5, rfl⟩
        cases hth with
        | cons t1 hth =>
        cases hth with
        | cons t2 hth =>
        cases hth with
        | cons t3 hth =>
        cases hth with
        | cons t4 hth =>
        cases hth with
        | cons t5 hth =>
        refine ⟨_, rfl, so, _, 0, _, rfl, rfl, SqL.of hus, rfl, _, rfl, so, _, 1, _, rfl, rfl, SqL.of hus, rfl, _, rfl, so, _, 2, _, rfl, rfl, SqL.of hus, rfl, _, rfl, so, _, 3, _, rfl, rfl, SqL.of hus, rfl, _, rfl, so, _, 4, _, rfl, rfl, SqL.of hus, rfl, ?_⟩
        exact ⟨_, _, _, _, _, _, _, _, _, _, rfl, t1.keep s4, t2.keep s4, t3.keep s4, t4.keep s4, t5.keep s4, fun G5 s5' => ⟨_, rfl, iteF ⟨_, _, _, rfl, s4.trans s5'⟩⟩⟩
    · rintro σ2 G3 ⟨v10, v11, v12, rfl, sG⟩
      exact k G3
end
end K67
namespace K67
open PySem PySem.Spec PyProof.Rows L2 Kv
def ex_e1 (K : PySem.W.Frag) : Bool := errB K (He.ga K "NoPrime")
def ex_e2 (K : PySem.W.Frag) : Bool := errB K (He.ga K "NoNumber")
def ex_t1 (K : PySem.W.Frag) : Bool := decide (PySem.W.kitOne K (.ref (He.ga K "NoPrime")) (.ref (He.ga K "TreeError")) = some true)
def ex_t2 (K : PySem.W.Frag) : Bool := decide (PySem.W.kitOne K (.ref (He.ga K "NoNumber")) (.ref (He.ga K "TreeError")) = some true)
def ex (K : PySem.W.Frag) : Bool := ex_e1 K && (ex_e2 K && (ex_t1 K && (ex_t2 K)))
def fn : List He.DefD := [⟨("is_integer", none), "is_integer", "is_integer", defArgs sis_integer, defBody sis_integer, defScope sis_integer, [], []⟩,
  ⟨("is_between", none), "is_between", "is_between", defArgs sis_between, defBody sis_between, defScope sis_between, [], []⟩,
  ⟨("need_between", none), "need_between", "need_between", defArgs sneed_between, defBody sneed_between, defScope sneed_between, [], []⟩,
  ⟨("is_prime", none), "is_prime", "is_prime", defArgs sis_prime, defBody sis_prime, defScope sis_prime, [], []⟩,
  ⟨("need_prime", none), "need_prime", "need_prime", defArgs sneed_prime, defBody sneed_prime, defScope sneed_prime, [], []⟩,
  ⟨("need_size", none), "need_size", "need_size", defArgs sneed_size, defBody sneed_size, defScope sneed_size, [], []⟩,
  ⟨("power", none), "power", "power", defArgs spower, defBody spower, defScope spower, [], []⟩,
  ⟨("too_few", none), "too_few", "too_few", defArgs stoo_few, defBody stoo_few, defScope stoo_few, [], []⟩,
  ⟨("_law_deck", none), "_law_deck", "_law_deck", defArgs s_law_deck, defBody s_law_deck, defScope s_law_deck, [], []⟩,
  ⟨("_law_mixed", none), "_law_mixed", "_law_mixed", defArgs s_law_mixed, defBody s_law_mixed, defScope s_law_mixed, [], []⟩,
  ⟨("_law_draw", none), "_law_draw", "_law_draw", defArgs s_law_draw, defBody s_law_draw, defScope s_law_draw, [], []⟩,
  ⟨("_law_primes", none), "_law_primes", "_law_primes", defArgs s_law_primes, defBody s_law_primes, defScope s_law_primes, [], []⟩,
  ⟨("_law_raised", none), "_law_raised", "_law_raised", defArgs s_law_raised, defBody s_law_raised, defScope s_law_raised, [], []⟩,
  ⟨("_law_is_within", none), "_law_is_within", "_law_is_within", defArgs s_law_is_within, defBody s_law_is_within, defScope s_law_is_within, [], []⟩,
  ⟨("_law_due", none), "_law_due", "_law_due", defArgs s_law_due, defBody s_law_due, defScope s_law_due, [], []⟩,
  ⟨("_law_told", none), "_law_told", "_law_told", defArgs s_law_told, defBody s_law_told, defScope s_law_told, [], []⟩,
  ⟨("_law_is_right", none), "_law_is_right", "_law_is_right", defArgs s_law_is_right, defBody s_law_is_right, defScope s_law_is_right, [], []⟩,
  ⟨("_law_is_behind", none), "_law_is_behind", "_law_is_behind", defArgs s_law_is_behind, defBody s_law_is_behind, defScope s_law_is_behind, [], []⟩,
  ⟨("law", none), "law", "law", defArgs slaw, defBody slaw, defScope slaw, [], []⟩]
def glos : List Str := (["is_integer", "is_between", "need_between", "is_prime", "need_prime", "need_size", "power", "too_few", "_law_deck", "_law_mixed", "_law_draw", "_law_primes", "_law_raised", "_law_is_within", "_law_due"] : List Str) ++ (["_law_told", "_law_is_right", "_law_is_behind", "law", "TreeError", "NoNumber", "NoPrime"] : List Str)
def frs : List Str := (["abs", "int", "len", "range", "isinstance", "list", "tuple", "dict", "all", "enumerate", "repr", "bool", "max", "min", "sorted"] : List Str) ++ (["set", "sum", "zip"] : List Str)
def fa0 : List He.Fa := [.int "LEAST_PRIME" 5, .int "GREATEST_PRIME" 251, .int "MOST_SIZE" 8, .int "MOST_COUNTED_LINKS" 60, .int "MOST_COUNTED_FRAMES" 400, .int "MOST_COUNTED_BEATS" 400, .exc "NoPrime", .exc "NoNumber", .exm "NoPrime" "NoPrime" true, .exm "NoNumber" "NoNumber" true, .exm "NoNumber" "NoPrime" false]
def fa : List He.Fa := fa0 ++ (glos.map He.Fa.glo ++ frs.map He.Fa.free)
def tf : List He.Defn := []
abbrev R : PySem.W.OpenRow := PySem.W.OpenLaw.row PySem.Challenge.rw_sparetrees_k67_whole_counts_of_what_come
abbrev hk : PySem.W.Hook := He.hookX 4 fa fn [] tf ex
def ob (s : PySem.W.SharedT) : He.AlX := He.obsX 4 fa fn [] tf ex (HandSHeadRun.getT s)
theorem ob_eq (s : PySem.W.SharedT) : ob s = hk.obs s.abs := He.obsX_eq (HandSHeadRun.getT_eq s)
def others : List Str := (["is_integer", "is_between", "need_between", "is_prime", "need_prime", "need_size", "power", "too_few", "_law_deck", "_law_mixed", "_law_draw", "_law_primes", "_law_raised", "_law_is_within", "_law_due"] : List Str) ++ (["_law_told", "_law_is_right", "_law_is_behind", "TreeError", "NoNumber", "NoPrime", "LEAST_PRIME", "GREATEST_PRIME", "MOST_SIZE", "MOST_COUNTED_LINKS", "MOST_COUNTED_FRAMES", "MOST_COUNTED_BEATS"] : List Str)
theorem run (w : World) : HandSHeadRun.RunEq R (PySem.W.view R.prog [32]) hk ob 40000 others w := by
  intro os
  kernel_rfl
end K67
namespace K67
open PySem PySem.Spec PyProof.Rows L2 Kv
theorem facts {P : Program} {w : World} {K : PySem.W.Frag} {h : Heap} {mg : Str → Option Value} {f : Addr} (X : K.In h) (G : h.Ns mainGlobals mg) (hfa : mg ("law" : Str) = some (.ref f)) (c : He.SaysX fa fn [] tf ex w h K) :
    ∃ fd : FuncData, (∀ (s : Shared) (v : Value), BindsTo s fd ⟨[v], []⟩ [("_law_script", v)]) ∧ ∀ base : Heap, K.In base → base.Ns mainGlobals mg → (∀ p ∈ tf, LamX.TabB base mg (He.cT K p).1 (He.cT K p).2) → FnG P w K mg base 8 f fd ["_law_script"] (spLaw K) := by
  have d := c.t.d
  have in0 : ∀ {z : He.Fa}, z ∈ fa0 → z ∈ fa := fun m => List.mem_append_left _ m
  have glo : ∀ x : Str, x ∈ glos → mg x = some (.ref (He.ga K x)) := fun x m => He.glo_ok X G (d.facts (List.mem_append_right _ (List.mem_append_left _ (List.mem_map_of_mem m))))
  have fre : ∀ x : Str, x ∈ frs → mg x = none := fun x m => He.free_ok X G (d.facts (List.mem_append_right _ (List.mem_append_right _ (List.mem_map_of_mem m))))
  obtain ⟨fd0, F0⟩ := d.def_ 0 (d := fn.getD 0 ⟨("", none), "", "", defArgs slaw, [], defScope slaw, [], []⟩) rfl
  obtain ⟨fd1, F1⟩ := d.def_ 1 (d := fn.getD 1 ⟨("", none), "", "", defArgs slaw, [], defScope slaw, [], []⟩) rfl
  obtain ⟨fd2, F2⟩ := d.def_ 2 (d := fn.getD 2 ⟨("", none), "", "", defArgs slaw, [], defScope slaw, [], []⟩) rfl
  obtain ⟨fd3, F3⟩ := d.def_ 3 (d := fn.getD 3 ⟨("", none), "", "", defArgs slaw, [], defScope slaw, [], []⟩) rfl
  obtain ⟨fd4, F4⟩ := d.def_ 4 (d := fn.getD 4 ⟨("", none), "", "", defArgs slaw, [], defScope slaw, [], []⟩) rfl
  obtain ⟨fd5, F5⟩ := d.def_ 5 (d := fn.getD 5 ⟨("", none), "", "", defArgs slaw, [], defScope slaw, [], []⟩) rfl
  obtain ⟨fd6, F6⟩ := d.def_ 6 (d := fn.getD 6 ⟨("", none), "", "", defArgs slaw, [], defScope slaw, [], []⟩) rfl
  obtain ⟨fd7, F7⟩ := d.def_ 7 (d := fn.getD 7 ⟨("", none), "", "", defArgs slaw, [], defScope slaw, [], []⟩) rfl
  obtain ⟨fd8, F8⟩ := d.def_ 8 (d := fn.getD 8 ⟨("", none), "", "", defArgs slaw, [], defScope slaw, [], []⟩) rfl
  obtain ⟨fd9, F9⟩ := d.def_ 9 (d := fn.getD 9 ⟨("", none), "", "", defArgs slaw, [], defScope slaw, [], []⟩) rfl
  obtain ⟨fd10, F10⟩ := d.def_ 10 (d := fn.getD 10 ⟨("", none), "", "", defArgs slaw, [], defScope slaw, [], []⟩) rfl
  obtain ⟨fd11, F11⟩ := d.def_ 11 (d := fn.getD 11 ⟨("", none), "", "", defArgs slaw, [], defScope slaw, [], []⟩) rfl
  obtain ⟨fd12, F12⟩ := d.def_ 12 (d := fn.getD 12 ⟨("", none), "", "", defArgs slaw, [], defScope slaw, [], []⟩) rfl
  obtain ⟨fd13, F13⟩ := d.def_ 13 (d := fn.getD 13 ⟨("", none), "", "", defArgs slaw, [], defScope slaw, [], []⟩) rfl
  obtain ⟨fd14, F14⟩ := d.def_ 14 (d := fn.getD 14 ⟨("", none), "", "", defArgs slaw, [], defScope slaw, [], []⟩) rfl
  obtain ⟨fd15, F15⟩ := d.def_ 15 (d := fn.getD 15 ⟨("", none), "", "", defArgs slaw, [], defScope slaw, [], []⟩) rfl
  obtain ⟨fd16, F16⟩ := d.def_ 16 (d := fn.getD 16 ⟨("", none), "", "", defArgs slaw, [], defScope slaw, [], []⟩) rfl
  obtain ⟨fd17, F17⟩ := d.def_ 17 (d := fn.getD 17 ⟨("", none), "", "", defArgs slaw, [], defScope slaw, [], []⟩) rfl
  obtain ⟨fd18, F18⟩ := d.def_ 18 (d := fn.getD 18 ⟨("", none), "", "", defArgs slaw, [], defScope slaw, [], []⟩) rfl
  let D : Dn K mg := {
    f_is_integer := He.ga K "is_integer", fd_is_integer := fd0,
    D_is_integer := ⟨F0, glo "is_integer" (by decide +kernel), FunD.bindsN (ps := ["thing"]) F0 fun _ _ _ _ _ _ us hl => match us, hl with | [_], _ => rfl⟩,
    f_is_between := He.ga K "is_between", fd_is_between := fd1,
    D_is_between := ⟨F1, glo "is_between" (by decide +kernel), FunD.bindsN (ps := ["thing", "least", "most"]) F1 fun _ _ _ _ _ _ us hl => match us, hl with | [_, _, _], _ => rfl⟩,
    f_need_between := He.ga K "need_between", fd_need_between := fd2,
    D_need_between := ⟨F2, glo "need_between" (by decide +kernel), FunD.bindsN (ps := ["thing", "least", "most"]) F2 fun _ _ _ _ _ _ us hl => match us, hl with | [_, _, _], _ => rfl⟩,
    f_is_prime := He.ga K "is_prime", fd_is_prime := fd3,
    D_is_prime := ⟨F3, glo "is_prime" (by decide +kernel), FunD.bindsN (ps := ["thing"]) F3 fun _ _ _ _ _ _ us hl => match us, hl with | [_], _ => rfl⟩,
    f_need_prime := He.ga K "need_prime", fd_need_prime := fd4,
    D_need_prime := ⟨F4, glo "need_prime" (by decide +kernel), FunD.bindsN (ps := ["thing"]) F4 fun _ _ _ _ _ _ us hl => match us, hl with | [_], _ => rfl⟩,
    f_need_size := He.ga K "need_size", fd_need_size := fd5,
    D_need_size := ⟨F5, glo "need_size" (by decide +kernel), FunD.bindsN (ps := ["thing"]) F5 fun _ _ _ _ _ _ us hl => match us, hl with | [_], _ => rfl⟩,
    f_power := He.ga K "power", fd_power := fd6,
    D_power := ⟨F6, glo "power" (by decide +kernel), FunD.bindsN (ps := ["base", "exponent"]) F6 fun _ _ _ _ _ _ us hl => match us, hl with | [_, _], _ => rfl⟩,
    f_too_few := He.ga K "too_few", fd_too_few := fd7,
    D_too_few := ⟨F7, glo "too_few" (by decide +kernel), FunD.bindsN (ps := ["prime", "size", "links", "frames", "beats"]) F7 fun _ _ _ _ _ _ us hl => match us, hl with | [_, _, _, _, _], _ => rfl⟩,
    f_deck := He.ga K "_law_deck", fd_deck := fd8,
    D_deck := ⟨F8, glo "_law_deck" (by decide +kernel), FunD.bindsN (ps := ["_law_script"]) F8 fun _ _ _ _ _ _ us hl => match us, hl with | [_], _ => rfl⟩,
    f_mixed := He.ga K "_law_mixed", fd_mixed := fd9,
    D_mixed := ⟨F9, glo "_law_mixed" (by decide +kernel), FunD.bindsN (ps := ["_law_cell", "_law_turn"]) F9 fun _ _ _ _ _ _ us hl => match us, hl with | [_, _], _ => rfl⟩,
    f_draw := He.ga K "_law_draw", fd_draw := fd10,
    D_draw := ⟨F10, glo "_law_draw" (by decide +kernel), FunD.bindsN (ps := ["_law_deck_here", "_law_many"]) F10 fun _ _ _ _ _ _ us hl => match us, hl with | [_, _], _ => rfl⟩,
    f_primes := He.ga K "_law_primes", fd_primes := fd11,
    D_primes := ⟨F11, glo "_law_primes" (by decide +kernel), FunD.bindsN (ps := []) F11 fun _ _ _ _ _ _ us hl => match us, hl with | [], _ => rfl⟩,
    f_raised := He.ga K "_law_raised", fd_raised := fd12,
    D_raised := ⟨F12, glo "_law_raised" (by decide +kernel), FunD.bindsN (ps := ["_law_base", "_law_times"]) F12 fun _ _ _ _ _ _ us hl => match us, hl with | [_, _], _ => rfl⟩,
    f_is_within := He.ga K "_law_is_within", fd_is_within := fd13,
    D_is_within := ⟨F13, glo "_law_is_within" (by decide +kernel), FunD.bindsN (ps := ["_law_thing", "_law_least", "_law_most"]) F13 fun _ _ _ _ _ _ us hl => match us, hl with | [_, _, _], _ => rfl⟩,
    f_due := He.ga K "_law_due", fd_due := fd14,
    D_due := ⟨F14, glo "_law_due" (by decide +kernel), FunD.bindsN (ps := ["_law_prime", "_law_size", "_law_links", "_law_frames", "_law_beats"]) F14 fun _ _ _ _ _ _ us hl => match us, hl with | [_, _, _, _, _], _ => rfl⟩,
    f_told := He.ga K "_law_told", fd_told := fd15,
    D_told := ⟨F15, glo "_law_told" (by decide +kernel), FunD.bindsN (ps := ["_law_prime", "_law_size", "_law_links", "_law_frames", "_law_beats"]) F15 fun _ _ _ _ _ _ us hl => match us, hl with | [_, _, _, _, _], _ => rfl⟩,
    f_is_right := He.ga K "_law_is_right", fd_is_right := fd16,
    D_is_right := ⟨F16, glo "_law_is_right" (by decide +kernel), FunD.bindsN (ps := ["_law_prime", "_law_size", "_law_links", "_law_frames", "_law_beats"]) F16 fun _ _ _ _ _ _ us hl => match us, hl with | [_, _, _, _, _], _ => rfl⟩,
    f_is_behind := He.ga K "_law_is_behind", fd_is_behind := fd17,
    D_is_behind := ⟨F17, glo "_law_is_behind" (by decide +kernel), FunD.bindsN (ps := ["_law_prime", "_law_size", "_law_links", "_law_late"]) F17 fun _ _ _ _ _ _ us hl => match us, hl with | [_, _, _, _], _ => rfl⟩,
    f_law := He.ga K "law", fd_law := fd18,
    D_law := ⟨F18, glo "law" (by decide +kernel), FunD.bindsN (ps := ["_law_script"]) F18 fun _ _ _ _ _ _ us hl => match us, hl with | [_], _ => rfl⟩ }
  have B : Bn mg := ⟨fre "len" (by decide +kernel), fre "int" (by decide +kernel), fre "abs" (by decide +kernel), fre "isinstance" (by decide +kernel), fre "range" (by decide +kernel), fre "bool" (by decide +kernel), fre "list" (by decide +kernel), fre "tuple" (by decide +kernel), fre "dict" (by decide +kernel), fre "all" (by decide +kernel), fre "enumerate" (by decide +kernel), fre "repr" (by decide +kernel), fre "max" (by decide +kernel), fre "min" (by decide +kernel), fre "sorted" (by decide +kernel), fre "set" (by decide +kernel), fre "sum" (by decide +kernel), fre "zip" (by decide +kernel)⟩
  have hx : ex K = true := c.more
  obtain ⟨x_e1, hx⟩ := He.ba hx
  obtain ⟨x_e2, hx⟩ := He.ba hx
  obtain ⟨x_t1, hx⟩ := He.ba hx
  have x_t2 := hx
  have x_t1 := of_decide_eq_true x_t1
  have x_t2 := of_decide_eq_true x_t2
  have xc_NoPrime : XcK K mg "NoPrime" := by
    obtain ⟨y1, y2, y3, y4⟩ := He.exc_ok (d.facts (in0 (z := .exc "NoPrime") (by simp [fa0])))
    exact ⟨y1, glo "NoPrime" (by decide +kernel), y2, y3, y4⟩
  have xc_NoNumber : XcK K mg "NoNumber" := by
    obtain ⟨y1, y2, y3, y4⟩ := He.exc_ok (d.facts (in0 (z := .exc "NoNumber") (by simp [fa0])))
    exact ⟨y1, glo "NoNumber" (by decide +kernel), y2, y3, y4⟩
  have i_LEAST_PRIME := He.int_ok X G (d.facts (in0 (z := .int "LEAST_PRIME" 5) (by simp [fa0])))
  have i_GREATEST_PRIME := He.int_ok X G (d.facts (in0 (z := .int "GREATEST_PRIME" 251) (by simp [fa0])))
  have i_MOST_SIZE := He.int_ok X G (d.facts (in0 (z := .int "MOST_SIZE" 8) (by simp [fa0])))
  have i_MOST_COUNTED_LINKS := He.int_ok X G (d.facts (in0 (z := .int "MOST_COUNTED_LINKS" 60) (by simp [fa0])))
  have i_MOST_COUNTED_FRAMES := He.int_ok X G (d.facts (in0 (z := .int "MOST_COUNTED_FRAMES" 400) (by simp [fa0])))
  have i_MOST_COUNTED_BEATS := He.int_ok X G (d.facts (in0 (z := .int "MOST_COUNTED_BEATS" 400) (by simp [fa0])))
  have M : Nm mg := ⟨i_LEAST_PRIME, i_GREATEST_PRIME, i_MOST_SIZE, i_MOST_COUNTED_LINKS, i_MOST_COUNTED_FRAMES, i_MOST_COUNTED_BEATS⟩
  have T : T67 K mg := ⟨xc_NoPrime, xc_NoNumber, glo "TreeError" (by decide +kernel), x_e1, x_e2, x_t1, x_t2, He.exm_ok (d.facts (in0 (z := .exm "NoPrime" "NoPrime" true) (by simp [fa0]))), He.exm_ok (d.facts (in0 (z := .exm "NoNumber" "NoNumber" true) (by simp [fa0]))), He.exm_ok (d.facts (in0 (z := .exm "NoNumber" "NoPrime" false) (by simp [fa0])))⟩
  have e := hfa.symm.trans (glo "law" (by decide +kernel))
  cases e
  have bl := FunD.bindsA (ps := ["_law_script"]) F18 fun _ _ _ _ _ _ us hl => match us, hl with | [_], _ => rfl
  exact ⟨fd18, fun s v => bl s [v] rfl, fun base _ _ tb => FnG.of (ok_law (P := P) (w := w) (base := base) D B M T)⟩
end K67
open PySem PySem.W PySem.Calls PyProof.Rows
theorem PySem.Challenge.cw_sparetrees_k67_whole_counts_of_what_come_holds : PySem.Challenge.rw_sparetrees_k67_whole_counts_of_what_come.Holds := by
  w_on; o_law
  refine HandSHeadRun.head_any (r := OpenLaw.row PySem.Challenge.rw_sparetrees_k67_whole_counts_of_what_come) (q := view (OpenLaw.row PySem.Challenge.rw_sparetrees_k67_whole_counts_of_what_come).prog [32]) (H := K67.hk) (ob := K67.ob) (M := 40000) (loose := K67.others) (d := HandSHeadRun.topDef (OpenLaw.row PySem.Challenge.rw_sparetrees_k67_whole_counts_of_what_come).prog 32) (kwd := []) K67.ob_eq
    (by kernel_rfl) (fun s => by kernel_rfl) K67.run (by kernel_rfl) (by kernel_rfl) (by kernel_rfl) (by rfl) (by first | assumption | decide +kernel) (by decide +kernel) ⟨rfl, rfl, rfl, rfl, rfl, by decide +kernel⟩ ?hw ?hc
  case hw => w_witness2
  case hc =>
    refine Kv.walkGT (l := PySem.Challenge.rw_sparetrees_k67_whole_counts_of_what_come) (n := 63) (k := 8) (x := "_law_script") rfl (by decide) (by kernel_rfl) ⟨rfl, by decide, by decide⟩ ?F
    intro w mg fa h Y G hmg0
    obtain ⟨K, KX, c⟩ := Y
    have hmg : mg ("law" : PySem.Str) = some (.ref fa) := by
      have e : (HandSHeadRun.topDef (OpenLaw.row PySem.Challenge.rw_sparetrees_k67_whole_counts_of_what_come).prog 32).name = ("law" : PySem.Str) := by kernel_rfl
      rw [← e]
      exact hmg0
    obtain ⟨fd, hb, hF⟩ := K67.facts (P := (PySem.Challenge.rw_sparetrees_k67_whole_counts_of_what_come).prog) (w := w) KX G hmg c
    refine ⟨K, fd, (K67.spLaw K), K67.tf.map (He.cT K), KX, ?_, ?_, ?_, hb, ?_, fun base b1 b2 b3 => hF base b1 b2 fun p hp => b3 _ (List.mem_map_of_mem hp)⟩
    · intro p hp
      obtain ⟨t, ht, rfl⟩ := List.mem_map.mp hp
      exact c.empty t ht
    · intro p hp
      obtain ⟨t, ht, rfl⟩ := List.mem_map.mp hp
      exact codeHd_of_K KX (c.hd t ht)
    · intro p hp
      obtain ⟨t, ht, rfl⟩ := List.mem_map.mp hp
      exact c.out t ht
    · intro H a ns hl _ hT hS
      have hT2 : ∀ t ∈ K67.tf, H (He.cT K t).2 = some (.tbl #[]) := fun t ht => hT _ (List.mem_map_of_mem ht)
      exact ⟨a, ns, rfl, hS, hl, fun _ => rfl⟩
#print axioms PySem.Challenge.cw_sparetrees_k67_whole_counts_of_what_come_holds
