import PyProof.Rows.All
import Wide.All
import OpenK.AllK
import Wide.FinOn
import HandS.ForMost
import HandS.Defaults
import HandS.EndBits
import HandS.EndOwn
import KE.KExcIs
import PyProof.ReprRoads
import HandS.ForExc
import HandS.ExcInit
import HandS.ExcValue
import HandS.ExcField
import HandS.Zip
import PyProof.ReprLen
import HandS.Codes
import HandS.HeadHook1
import KE.KStateDown
import HandS.Head0
import HandS.Head1
import HandS.Head2
import HandS.HeadHook2
import HandS.HeadHook3
import HandS.HeadHook4
import PySem.Challenge.RW_sparetrees_k00_errors_of_the_package
set_option Elab.async false
set_option linter.all false
set_option maxRecDepth 100000
set_option maxHeartbeats 0
namespace Kv
open PySem PySem.Spec PyProof.Rows L2

/-- the five items of the drawer's list -/
def five (c : Addr) (i d s t : Int) : List V := [.ref c, .int i, .int d, .int s, .int t]
/-- the drawer's list at a, over the cells at c; where it stands is left open -/
def drw (a c : Addr) : HO := .ext fun h => ∃ (i d s t : Int) (its : List Value) (k : Nat), 0 ≤ i ∧ Vals (five c i d s t) its ∧ h.get? a = some { cls := .type "list", data := .seq its.toArray k }

theorem drw_at {P : Program} {w : World} {H : Hp} {h : Heap} {a c : Addr} (x : ObjOk P w H h a (drw a c)) :
    ∃ (i d s t : Int) (its : List Value) (k : Nat), 0 ≤ i ∧ Vals (five c i d s t) its ∧ h.get? a = some { cls := .type "list", data := .seq its.toArray k } := x.1
theorem drw_ok {P : Program} {w : World} {H : Hp} {h : Heap} {a c : Addr} {i d s t : Int} (hi : 0 ≤ i) (x : ObjOk P w H h a (.lst (five c i d s t))) {H' : Hp} : ObjOk P w H' h a (drw a c) := by
  obtain ⟨_, its, n, r, e⟩ := x
  refine ⟨⟨i, d, s, t, its, n, hi, r, e⟩, ⟨_, e⟩, fun h1 h2 z q => ?_⟩
  obtain ⟨i, d, s, t, its, n, hi, r, e⟩ := z
  exact ⟨i, d, s, t, its, n, hi, r, q _ e⟩
theorem drw_own {a c x : Addr} : drw a c ≠ .own x := fun z => by
  have z' : HO.ext _ = HO.own x := z
  cases z'
theorem drw_tup {a c : Addr} {xs : List V} : drw a c ≠ .tup xs := fun z => by
  have z' : HO.ext _ = HO.tup xs := z
  cases z'
theorem drw_frz {a c : Addr} {o : Obj} {u : HO} : drw a c ≠ .frz o u := fun z => by
  have z' : HO.ext _ = HO.frz o u := z
  cases z'
theorem drw_tbl {a c : Addr} {ps : Array Value} : drw a c ≠ .tbl ps := fun z => by
  have z' : HO.ext _ = HO.tbl ps := z
  cases z'
theorem drw_lst {a c : Addr} {xs : List V} : drw a c ≠ .lst xs := fun z => by
  have z' : HO.ext _ = HO.lst xs := z
  cases z'
/-- two descriptions of one heap that part at a alone -/
theorem hok_swap {P : Program} {w : World} {H H' : Hp} {h : Heap} {a : Addr} {o : HO} (hok : HOk P w H h) (he : ∀ b, b ≠ a → H' b = H b) (hn : ∀ u, H a = some u → (∀ x, u ≠ .own x) ∧ ∀ xs, u ≠ .tup xs) (ha : H' a = some o) (new : ObjOk P w H' h a o) : HOk P w H' h := fun b u e => by
  by_cases hb : b = a
  · rw [hb] at e ⊢
    rw [ha] at e
    cases e
    exact new
  · have e1 : H b = some u := by rw [← he b hb]; exact e
    have na : ∀ c x, H c = some (.own x) → c ≠ a := fun c x q z => by rw [z] at q; exact (hn _ q).1 x rfl
    have nt : ∀ c xs, H c = some (.tup xs) → c ≠ a := fun c xs q z => by rw [z] at q; exact (hn _ q).2 xs rfl
    exact (hok b u e1).stay (fun _ _ _ q => q) (fun c q => by rw [he c (na c _ q)]; exact q) fun c xs q => by rw [he c (nt c xs q)]; exact q

/-- a def that is proved with the drawer's list laid open keeps the promise in which it is shut -/
theorem shut {P : Program} {w : World} {K : PySem.W.Frag} {mg : Str → Option Value} {base : Heap} {k : Nat} {f : Addr} {fd : FuncData} {ps : List Str} {sp spC : Sp} (F : FnOk P w K mg base CX0 k f fd ps spC)
    (hl : ∀ vs H Q E, sp vs H Q E → vs.length = ps.length)
    (h2 : ∀ vs H Q E, sp vs H Q E → ∃ a c, H a = some (drw a c) ∧ ∀ i d s t, 0 ≤ i → spC vs (upd H a (.lst (five c i d s t)))
      (fun v H' => ∃ H0 i' d' s' t', 0 ≤ i' ∧ H' = upd H0 a (.lst (five c i' d' s' t')) ∧ H0 a = some (drw a c) ∧ Q v H0) E) : FnOk P w K mg base CX0 k f fd ps sp := by
  refine ⟨hl, fun A outer s H args us vs Q E hr e0 hb hv hsp => ?_⟩
  obtain ⟨a, c, ha, hC⟩ := h2 vs H Q E hsp
  obtain ⟨i, d, sd, t, its, n, hi, rv, hget⟩ := drw_at (e0.hok a _ ha)
  have hne : ∀ b, b ≠ a → upd H a (.lst (five c i d sd t)) b = H b := fun b hb => upd_ne hb
  have hna : ∀ b, H b = none → b ≠ a := fun b e z => by rw [z, ha] at e; cases e
  have new : ObjOk P w (upd H a (.lst (five c i d sd t))) s.heap a (.lst (five c i d sd t)) := ⟨by show 5 ≤ sizeLine; decide, its, n, rv, hget⟩
  have hokC : HOk P w (upd H a (.lst (five c i d sd t))) s.heap := hok_swap e0.hok hne (fun u e => by rw [ha] at e; cases e; exact ⟨fun x => drw_own, fun xs => drw_tup⟩) upd_same new
  have eC : Env0 P w K mg base A outer s (upd H a (.lst (five c i d sd t))) := ⟨e0.frames, e0.mod, fun b o e => ⟨(e0.bs b o e).1, by rw [hne b (hna b (e0.bs b o e).2)]; exact (e0.bs b o e).2⟩, e0.bsz, e0.funs, fun b hb => by rw [hne b (hna b (e0.frf b hb))]; exact e0.frf b hb, hokC, e0.bare⟩
  refine codeAny_mono (F.run A outer s _ args us vs _ E hr eC hb hv (hC i d sd t hi)) fun r s' q => ?_
  cases r with
  | error e => exact q
  | ok fl =>
    cases fl with
    | next => exact q
    | brk => exact q
    | cont => exact q
    | ret u =>
      obtain ⟨v, H', os, bare, un, hok', rv', H0, i', d', s1, t', hi', eH, h0, hQ⟩ := q
      subst eH
      have hne2 : ∀ b, b ≠ a → H0 b = upd H0 a (.lst (five c i' d' s1 t')) b := fun b hb => (upd_ne hb).symm
      have up : ∀ {b : Addr}, H b = none → upd H a (.lst (five c i d sd t)) b = none := fun {b} e => by rw [hne b (hna b e)]; exact e
      refine ⟨v, H0, os, bare, ⟨fun b o e n hb hx => un.keep b o e (up n) hb hx, fun b o e n hb hx => un.slot b o e (up n) hb hx, fun b o e n hx => ?_, fun b o e hx => un.there b o e hx, fun b xs e => ?_, fun b o u e => ?_, fun b ps e => ?_⟩, ?_, rv', hQ⟩
      · rw [hne2 b (hna b n)]
        exact un.free b o e (up n) hx
      · have hb : b ≠ a := fun z => by rw [z, ha] at e; exact drw_tup (Option.some.inj e)
        rw [hne2 b hb]
        exact un.tups b xs (by rw [hne b hb]; exact e)
      · have hb : b ≠ a := fun z => by rw [z, ha] at e; exact drw_frz (Option.some.inj e)
        rw [hne2 b hb]
        exact un.frzs b o u (by rw [hne b hb]; exact e)
      · have hb : b ≠ a := fun z => by rw [z, ha] at e; exact drw_tbl (Option.some.inj e)
        rw [hne2 b hb]
        exact un.tbls b ps (by rw [hne b hb]; exact e)
      · exact hok_swap hok' hne2 (fun u e => by rw [upd_same] at e; cases e; exact ⟨fun x z => (nomatch z), fun xs z => (nomatch z)⟩) h0 (drw_ok hi' (hok' a _ upd_same))

/-- a def that hands back a new drawer, laid open -/
theorem shutNew {P : Program} {w : World} {K : PySem.W.Frag} {mg : Str → Option Value} {base : Heap} {k : Nat} {f : Addr} {fd : FuncData} {ps : List Str} {sp spC : Sp} (F : FnOk P w K mg base CX0 k f fd ps spC)
    (hl : ∀ vs H Q E, sp vs H Q E → vs.length = ps.length)
    (h2 : ∀ vs H Q E, sp vs H Q E → spC vs H (fun v H2 => ∃ p c i d s t, 0 ≤ i ∧ H2 p = some (.lst (five c i d s t)) ∧ Q v (upd H2 p (drw p c))) E) : FnOk P w K mg base CX0 k f fd ps sp := by
  refine ⟨hl, fun A outer s H args us vs Q E hr e0 hb hv hsp => ?_⟩
  refine codeAny_mono (F.run A outer s H args us vs _ E hr e0 hb hv (h2 vs H Q E hsp)) fun r s2 q => ?_
  rcases r with e | (_ | _ | _ | u)
  · exact q
  · exact q
  · exact q
  · exact q
  · obtain ⟨v, H2, os, bare, un, hok, rv, p, c, i, d, t, t2, hi, hp, hQ⟩ := q
    have other : ∀ b, H2 b = none → upd H2 p (drw p c) b = none := fun b e => by rw [upd_ne (fun z => by rw [z, hp] at e; cases e)]; exact e
    have ne : ∀ b, b ≠ p → upd H2 p (drw p c) b = H2 b := fun b hb => upd_ne hb
    refine ⟨v, _, os, bare, ⟨un.keep, un.slot, fun b o e n hx => other b (un.free b o e n hx), un.there, fun b xs e => ?_, fun b o u e => ?_, fun b ps e => ?_⟩, ?_, rv, hQ⟩
    · have y := un.tups b xs e
      rw [ne b (fun z => by rw [z, hp] at y; cases y)]
      exact y
    · have y := un.frzs b o u e
      rw [ne b (fun z => by rw [z, hp] at y; cases y)]
      exact y
    · obtain ⟨m, y⟩ := un.tbls b ps e
      exact ⟨m, by rw [ne b (fun z => by rw [z, hp] at y; cases y)]; exact y⟩
    · exact hok_swap hok ne (fun u e => by rw [hp] at e; cases e; exact ⟨fun x z => (nomatch z), fun xs z => (nomatch z)⟩) upd_same (drw_ok hi (hok p _ hp))
end Kv
namespace Kv
open PySem PySem.Spec PyProof.Rows L2

/-- a def's promise, kept where no text of a list or tuple is being made around the call -/
structure FnG (P : Program) (w : World) (K : PySem.W.Frag) (mg : Str → Option Value) (base : Heap) (k : Nat) (f : Addr) (fd : FuncData) (ps : List Str) (sp : Sp) : Prop where
  len : ∀ vs H Q E, sp vs H Q E → vs.length = ps.length
  run : ∀ (A : Around) (out : List Env) (s : Shared) (H : Hp) (ag : Args) (us : List Value) (vs : List V) (Q : VK) (E : XK), A.guards = some [] → Room k A → Env0 P w K mg base A out s H → BindsTo s fd ag (ps.zip us) → Vals vs us → sp vs H Q E →
    codeAny (model P w) A (.call (.ref f) ag) (CR CX0 out P w H s Q E) s
section
variable {P : Program} {w : World} {K : PySem.W.Frag} {mg : Str → Option Value} {base : Heap} {k : Nat} {f : Addr} {fd : FuncData} {ps : List Str} {sp : Sp}
theorem FnG.of (F : FnOk P w K mg base CX0 k f fd ps sp) : FnG P w K mg base k f fd ps sp := ⟨F.len, fun A out s H ag us vs Q E _ => F.run A out s H ag us vs Q E⟩

/-- the body's context at its entry -/
abbrev cxG (P : Program) (w : World) (K : PySem.W.Frag) (mg : Str → Option Value) (base : Heap) (N : List Str) (qual : Str) (sc : Scope) (f : Addr) (cd : Value) (A : Around) (out : List Env) (s : Shared) (H : Hp) (E : XK) : Cx := (cxOf CX0 P w K mg base N qual sc f cd A out s H E).nox
/-- a def by its body, where no repr is under way -/
theorem okG {x qual : Str} {ar : Arguments} {body : List Stmt} {sc : Scope} {dvs : List V} {kws : List (Str × V)} {N : List Str} (F : FunD K x qual ar body sc dvs kws f fd) (S : FnScope N ps sc) (len : ∀ vs H Q E, sp vs H Q E → vs.length = ps.length)
    (hb : ∀ (cd : Value) (A : Around) (out : List Env) (s : Shared) (H : Hp) (vs : List V) (Q : VK) (E : XK), A.guards = some [] → Room k (A.deeper (envOfC qual sc s.heap.objs.size f cd)) → sp vs H Q E →
      ∃ t, PSs (cxG P w K mg base N qual sc f cd A out s H E) body t ∧ t { nx := fun _ H1 => Q .non H1, rt := Q } (start N vs) H) : FnG P w K mg base (k + 1) f fd ps sp := by
  refine ⟨len, fun A out s H ag us vs Q E hg hr e0 bd rv hq => ?_⟩
  obtain ⟨oc, od, dV, kV, doc, pm, an, cdv, ct, osl, rfl, lk, hcd, _⟩ := F.ex
  have lenv := len vs H Q E hq
  have inK : K.In s.heap := e0.mod.kin.keeps fun b o z => (e0.bs b o z).1
  have nol : s.heap.NoLimit := e0.mod.nolimit.keeps fun b o z => (e0.bs b o z).1
  have kinds : ∀ y ∈ ps.zip us, sc.names.lookup y.1 = some .local ∨ (sc.names.lookup y.1 = some .cell ∧ ((cellsFrom (s.heap.objs.size + 1) sc.names []).lookup y.1).isSome = true) := by
    rintro ⟨n, v⟩ hy
    rcases S.par n (List.of_mem_zip hy).1 with z | z
    · exact Or.inl z
    · exact Or.inr ⟨z, PySem.W.cellsFrom_some _ _ _ (Or.inl z)⟩
  refine codeAny_call_function hr.depth (inK _ _ lk) rfl S.co S.gen rfl (PySem.W.codeRec_of inK hcd) (bd _ _ _ _ (wpAny_newFunctionEnv_cells S.kind kinds fun env henv s1 x => ?_))
  cases henv
  refine ⟨nol.keeps x.toInCall.keep, codeAny_func ?_⟩
  obtain ⟨t, ht, hw⟩ := hb cdv A out s H vs Q E hg (hr.deeper _) hq
  have I : Inv (cxOf CX0 P w K mg base N qual sc f cdv A out s H E) [] (start N vs) H s1 := inv_start S hr.hd e0 lenv rv x
  refine wpAny_mono (ht.nox.run [] s1 (start N vs) H _ I hw) (fun fl s2 hs => ?_) fun _ _ z => z
  rcases fl with _ | _ | _ | u
  · obtain ⟨σ2, H2, J, q⟩ := hs
    exact ⟨.non, H2, J.os, J.bare, J.base, J.hok, rfl, q⟩
  · obtain ⟨σ2, H2, J, q⟩ := hs
    exact q.elim
  · obtain ⟨σ2, H2, J, q⟩ := hs
    exact q.elim
  · obtain ⟨v, σ2, H2, J, r, q⟩ := hs
    exact ⟨v, H2, J.os, J.bare, J.base, J.hok, r, q⟩
end

section
variable {P : Program} {w : World} {K : PySem.W.Frag} {mg mb : Str → Option Value} {k : Nat} {fa a : Addr} {fd : FuncData} {x : Str} {sp : Sp} {z : Shared} {vs : List Value} {ns : List Int}
/-- the script's object -/
abbrev scrO (vs : List Value) : Obj := { cls := .type "list", data := .seq vs.toArray }
/-- the law's call, over an abstract heap that tracks the script or nothing -/
theorem lawAt (H : Hp) (KX : K.In z.heap) (hns : z.heap.Ns mainGlobals mg) (hbl : z.heap.Ns builtinsNs mb) (hbb : ∀ y : Str, y ≠ "__name__" → mb y = bootBuiltins y) (hlim : z.heap.NoLimit) (hgen : z.gens = #[])
    (ha : z.heap.get? a = some (scrO vs)) (rv : Vals (ns.map V.int) vs) (hlen : ns.length ≤ sizeLine) (hr : Room k callerA)
    (F : ∀ base : Heap, K.In base → base.Ns mainGlobals mg → FnG P w K mg base k fa fd [x] sp) (hbind : ∀ (s : Shared) (u : Value), BindsTo s fd ⟨[u], []⟩ [(x, u)])
    (only : ∀ b u, H b = some u → b = a ∧ u = .frz (scrO vs) (.lst (ns.map V.int))) (noK : ∀ u, H a = some u → K.lookup a = none)
    (hsp : sp [.ref a] H (fun v _ => v = .bl true) fun _ _ _ => False) :
    codeAny (model P w) callerA (.call (.ref fa) ⟨[.ref a], []⟩) (fun r s2 => r = .ok (.ret (.bool true)) ∧ OldK z.heap s2.heap ∧ s2.os = z.os ∧ AllBare s2.gens) z := by
  have hok : HOk P w H z.heap := fun b u q => by
    obtain ⟨rfl, rfl⟩ := only b u q
    exact ⟨ha, by rw [List.length_map]; exact hlen, vs, _, rv, ha⟩
  have free : ∀ {b : Addr} {o : Obj}, z.heap.get? b = some o → (∀ its n, o.data ≠ .seq its n) → H b = none := fun {b o} e nd => by
    cases q : H b with
    | none => rfl
    | some u =>
      obtain ⟨e1, _⟩ := only b u q
      rw [e1, ha] at e
      exact (nd vs.toArray _ (congrArg Obj.data (Option.some.inj e)).symm).elim
  have nsOf : ∀ {b : Addr} {m : Str → Option Value}, z.heap.Ns b m → (hidT z.heap H).Ns b m := by
    rintro b m ⟨o, es, ep, e, hd, r⟩
    exact ⟨o, es, ep, hidT_get e (free e fun its n q => by rw [hd] at q; cases q), hd, r⟩
  have inK : K.In (hidT z.heap H) := fun b o e => hidT_get (KX b o e) (by
    cases q : H b with
    | none => rfl
    | some u =>
      obtain ⟨e1, _⟩ := only b u q
      rw [e1] at e q
      rw [noK u q] at e
      cases e)
  have md : Mod K mg (hidT z.heap H) := by
    obtain ⟨mc, h1, h2⟩ := hlim
    exact ⟨inK, nsOf hns, ⟨mb, nsOf hbl, hbb⟩, mc, nsOf h1, h2⟩
  have none0 : ∀ b : Addr, b ∈ ([] : List Addr) → False := fun b q => nomatch q
  have e0 : Env0 P w K mg (hidT z.heap H) callerA [] z H := ⟨rfl, md, fun b o e => of_hidT e, Nat.le_of_eq (hidT_size _ _), trivial, fun b q => (none0 b q).elim, hok, .of_eq hgen⟩
  refine codeAny_mono ((F _ inK (nsOf hns)).run callerA [] z H ⟨[.ref a], []⟩ [.ref a] [.ref a] _ _ rfl hr e0 (hbind z (.ref a)) (.cons rfl .nil) hsp) fun r s2 q => ?_
  rcases r with e | (_ | _ | _ | u)
  · exact q.elim
  · exact q.elim
  · exact q.elim
  · exact q.elim
  · obtain ⟨v, H2, hos, hbare, un, hok2, rel, ev⟩ := q
    cases ev
    cases rel
    refine ⟨rfl, OldK.of_keep fun b o e => ?_, hos, hbare⟩
    cases q : H b with
    | none => exact un.keep b o e q (fun y => none0 b y) (fun y => none0 b y)
    | some u =>
      obtain ⟨e1, e2⟩ := only b u q
      rw [e2] at q
      obtain ⟨y, _⟩ := hok2 b _ (un.frzs b _ _ q)
      rw [e1] at e y ⊢
      rw [ha] at e
      exact y.trans e
end

/-- the end of a law's row; F: the written part, the function object, the promise -/
theorem walkG {l : PySem.W.OpenLaw} {n k : Nat} {q : Program} {loose : List Str} {XP : (Str → Option Value) → Heap → Prop} {YP : World → Heap → Prop} {d : DefRec} {x : Str}
    (hn : l.most = some n) (hn2 : n ≤ sizeLine) (hdf : d.params.defaults = []) (hr : Room k callerA)
    (F : ∀ (w : World) (mg : Str → Option Value) (fa : Addr) (h : Heap), YP w h → h.Ns mainGlobals mg → mg d.name = some (.ref fa) →
      ∃ (K : PySem.W.Frag) (fd : FuncData) (sp : Sp), K.In h ∧ (∀ (s : Shared) (u : Value), BindsTo s fd ⟨[u], []⟩ [(x, u)]) ∧
        (∀ (H : Hp) (a : Addr) (ns : List Int), ns.length ≤ n → (∀ y ∈ ns, Builtin.Int.intBits y ≤ 1048576) → Only H → SqL K H a (ns.map V.int) → sp [.ref a] H (fun v _ => v = .bl true) fun _ _ _ => False) ∧
        ∀ base : Heap, K.In base → base.Ns mainGlobals mg → FnG l.prog w K mg base k fa fd [x] sp) :
    PySem.W.WalkO q loose XP YP l.row.toRowW d [] (fun f vs => PySem.call f vs) := by
  refine Att.attach_callB hn hdf fun w s0 z mg mb fa o pm cd doc a vs ns G Y _ _ _ hmg hobj hints hlen hbits hg => ?_
  obtain ⟨K, fd, sp, KX, hb, hsp, hF⟩ := F w mg fa _ Y G.T.g hmg
  have rv := vals_ints hints
  have hle : ns.length ≤ sizeLine := Nat.le_trans hlen hn2
  cases hk : K.lookup a with
  | some ob =>
    refine lawAt (fun _ => none) KX G.T.g G.T.b G.T.builtins G.T.nolimit hg hobj rv hle hr hF hb (fun b u y => by cases y) (fun u y => by cases y) (hsp _ a ns hlen hbits (fun _ => Or.inl rfl) (Or.inr ?_))
    have e := KX a ob hk
    rw [hobj] at e
    cases e
    exact ⟨_, vs.toArray, _, hk, rfl, rfl, rfl, by rw [List.size_toArray, hints.length]; exact hle, by simpa using rv⟩
  | none =>
    have at_a : (fun b => if b = a then some (HO.frz (scrO vs) (.lst (ns.map V.int))) else none : Hp) a = some (HO.frz (scrO vs) (.lst (ns.map V.int))) := if_pos rfl
    refine lawAt (fun b => if b = a then some (HO.frz (scrO vs) (.lst (ns.map V.int))) else none) KX G.T.g G.T.b G.T.builtins G.T.nolimit hg hobj rv hle hr hF hb (fun b u y => ?_) (fun u _ => hk)
      (hsp _ a ns hlen hbits (fun b => ?_) (Or.inl (Or.inr ⟨_, at_a⟩)))
    · by_cases e : b = a
      · have y2 := (if_pos e).symm.trans y
        cases y2
        exact ⟨e, rfl⟩
      · have y2 := (if_neg e).symm.trans y
        cases y2
    · by_cases e : b = a
      · exact Or.inr ⟨_, _, if_pos e⟩
      · exact Or.inl (if_neg e)
end Kv
namespace Kv
open PySem PySem.Spec PyProof.Rows L2

/-! ### a new error as a value -/
section
variable {X : Cx} {C : Addr} {x : Str} {p pos : Pos} {e o : Expr} {es : List Expr} {ta : TA} {te : TE}
/-- X(), a class without an __init__ of its own -/
def tExc0 (C : Addr) : TE := fun σ H Q => ∀ a, H a = none → Q (.ref a) (upd H a (ExO (.ref C) a))
theorem pe_exc0 {bm : List Value} {B newId initId : String} (F : ExcBaseFacts B newId initId bm) (q : PySem.W.excIn X.K C bm newId = true) (gC : X.mg x = some (.ref C)) (kC : PySem.W.keepIn X.K (.ref C) = true) (hg : Gl X x)
    (hdb : (x == ("__debug__" : Str)) = false := by decide) : PE X (.Call (.Name x p) [] [] pos) (tExc0 C) := by
  refine ⟨fun pins s σ H Q I h => wpAny_Call_Name_kw (ld_glob I hg gC ?_ hdb)⟩
  refine PySem.W.callWith_K0 (first := []) I.kIn kC ?_
  show wpAny _ _ (call (.ref C) []) _ _ _
  obtain ⟨bm', N, nm, qn, bs, hdct, sn, sub, ab, col, d, k0, k1, k2, k3, k5, mN, hC, hN, hni, T⟩ := exc_obj I.kIn q
  refine wpAny_call_exc_subT F T hC hN hni (fun h2 a hm => ?_) (Nat.zero_le _)
  have free : H a = none := I.hok.gone hm.new
  obtain ⟨t, ht, _, _⟩ := hm.there
  exact ⟨.ref a, _, I.laidN hm.keeps hm.new free (exO_ok ht ⟨rfl, rfl⟩ rfl rfl rfl (show 4 < 6 by decide)), rfl, h a free⟩

/-- X(e, ..), a class with an __init__ of its own that keeps sp -/
def tExcI (C : Addr) (sp : Sp) (ta : TA) : TE := fun σ H Q => ta σ H fun vs H1 => vs.length ≤ 1000 ∧ ∀ a, H1 a = none → sp (.ref a :: vs) (upd H1 a (exo a C none)) (fun v H2 => v = .non ∧ Q (.ref a) H2) E0
theorem pe_excI {fI : Addr} {k : Nat} {fd : FuncData} {ps : List Str} {sp : Sp} (T : OexC X.K C) (iC : PySem.W.findIn X.K (.ref C) "__init__" = some (some (.ref fI))) (tI : PySem.W.typeIn X.K (.ref fI) = some (.type "function"))
    (F1 : FnOk X.prog X.w X.K X.mg X.base CX0 k fI fd ps sp) (hr : Room (k + 1) X.A) (hb : Binds X.K fd ps []) (hg : Gl X x) (hm : X.mg x = some (.ref C)) (ha : PA X (e :: es) ta)
    (hdb : (x == ("__debug__" : Str)) = false := by decide) (he : starEach (e :: es) X.env = (false, eval e X.env) :: starEach es X.env := by rfl) (hpl : (backTo pos (starEach es X.env)).any (·.1) = false := by rfl) :
    PE X (.Call (.Name x p) (e :: es) [] pos) (tExcI C sp ta) := by
  refine ⟨fun pins s σ H Q I h => wpAny_Call_Name_kw (ld_glob I hg hm ?_ hdb)⟩
  obtain ⟨nm, q, N, bs, bm, sn, sub, ab, col, d0, k0, k1, k2, k3, k5, hC, hbm⟩ := T.cls
  refine PySem.W.callWith_K (h₀ := X.base) I.ok.mod.kin T.kC (thn (ha.run pos pins s σ H _ I h) fun us z hz => ?_) he hpl
  obtain ⟨vs, H1, I1, rv, hlen, hq⟩ := hz
  refine ⟨I1.kIn, ?_⟩
  show wpAny _ _ (call (.ref C) us) _ _ _
  obtain ⟨hp, g, dr, tk, os⟩ := z
  have big : hp.objs.size ≤ hp.objs.size + 1 := Nat.le_succ _
  have want := hq (hp.objs.size + 1) (I1.hok.fresh big)
  have keep : ∀ b u, hp.get? b = some u → ((hp.push (PySem.W.kdv_tup us)).push (PySem.HandSPX.excO C hp.objs.size)).get? b = some u := fun b u y => Heap.get?_push_of_some _ (Heap.get?_push_of_some _ y)
  have there : ((hp.push (PySem.W.kdv_tup us)).push (PySem.HandSPX.excO C hp.objs.size)).get? (hp.objs.size + 1) = some (PySem.HandSPX.excO C hp.objs.size) := by heap_get
  have I2 : Inv X pins σ (upd H1 (hp.objs.size + 1) (exo (hp.objs.size + 1) C none)) ⟨(hp.push (PySem.W.kdv_tup us)).push (PySem.HandSPX.excO C hp.objs.size), g, dr, tk, os⟩ := I1.laid (t' := tk) keep big (exo_ok there)
  have rel : Vals (V.ref (hp.objs.size + 1) :: vs) (Value.ref (hp.objs.size + 1) :: us) := .cons rfl rv
  have cnt : ((Value.ref (hp.objs.size + 1) :: us) ++ []).length = ps.length := by
    rw [List.append_nil, ← rel.length]
    exact F1.len _ _ _ _ want
  have usz : us.length ≤ sizeLine := by
    rw [← rv.length, sizeLine_eq]
    omega
  have bd := hb ⟨(hp.push (PySem.W.kdv_tup us)).push (PySem.HandSPX.excO C hp.objs.size), g, dr, tk, os⟩ (Value.ref (hp.objs.size + 1) :: us) I2.kIn cnt
  rw [List.append_nil] at bd
  refine wpAny_call (PySem.HandSPX.call_own F.excBase_ValueError (fun Y => PySem.HandSPX.refsVE_contains Y bm hbm) (I1.kIn _ _ hC) (PySem.W.looks_findIn I1.kIn iC) (fun self => PySem.W.bind_fn I1.kIn self tI) usz
    (codeAny_mono (F1.run _ X.stack _ _ ⟨Value.ref (hp.objs.size + 1) :: us, []⟩ _ _ _ E0 (hr.make C us []) (I2.env0.make C us []) bd rel want) fun r s2 y => ?_))
  rcases r with er | (_ | _ | _ | u)
  · exact y.elim
  · exact y.elim
  · exact y.elim
  · exact y.elim
  · obtain ⟨v, H2, I3, rv2, ev, q3⟩ := I2.after y
    cases ev
    exact ⟨rv2, .ref (hp.objs.size + 1), H2, I3, rfl, q3⟩

/-- an error at a, of the class at C -/
def IsErr (H : Hp) (a C : Addr) : Prop := H a = some (ExO (.ref C) a) ∨ ∃ d fs, H a = some (exo a C (some d)) ∧ H d = some (exd d fs)
theorem IsErr.keep {H H2 : Hp} {a C : Addr} (k : Same H H2) (h : IsErr H a C) : IsErr H2 a C := by
  rcases h with h | ⟨d, fs, h1, h2⟩
  · exact Or.inl (k _ _ h)
  · exact Or.inr ⟨d, fs, k _ _ h1, k _ _ h2⟩
/-- e.f of such an error -/
def tErrF (K : PySem.W.Frag) (f : Str) (te : TE) : TE := fun σ H Q => te σ H fun x H1 => ∃ a C d fs v, x = .ref a ∧ H1 a = some (exo a C (some d)) ∧ H1 d = some (exd d fs) ∧ XfC K C ∧ PySem.W.findIn K (.ref C) f = some none ∧ fs.lookup f = some v ∧ Q v H1
theorem pe_errF {n : Str} (he : PE X e te) (hb : attributeBase e n X.env (eval e X.env) = eval e X.env := by rfl) : PE X (.Attribute e n pos) (tErrF X.K n te) := by
  refine ⟨fun pins s σ H Q I h => attr_of hb (thn (he.run pins s σ H _ I h) fun u z y => ?_)⟩
  obtain ⟨v0, H1, I1, rx, a, C, d, fs, v, rfl, ea, ed, T, hno, hl, q⟩ := y
  cases rx
  obtain ⟨t1, ho⟩ := exo_at I1.hok ea
  obtain ⟨mA, hns, rl⟩ := exd_at I1.hok ed
  obtain ⟨od, hod, look⟩ := lookIn_ns hns
  obtain ⟨u, hu, ru⟩ := RelO.some_of (v := v) (o := mA n) (by rw [← hl]; exact rl n)
  have J : PySem.W.InstAt z.heap a _ C (some od) := ⟨ho, rfl, rfl, hod⟩
  exact HandSPX.exc_get I1.kIn J T.ga T.gg T.exC (PySem.W.findObj_own T.hdC hno rfl (by rw [look, hu])) (handed_of ru) ⟨v, H1, I1.tok _, ru, q⟩

/-- what isinstance asks of an error's class -/
def errB (K : PySem.W.Frag) (D : Addr) : Bool := xfB K D && ((PySem.W.clsIn K D).isSome && (decide (PySem.W.findIn K (.ref D) "__class__" = some (some (.builtin "object.__class__"))) && (decide (PySem.W.specialIn K (.builtin "object.__class__") "__get__" = some (some (.builtin "getset_descriptor.__get__"))) &&
  (decide (PySem.W.takesIn K (.builtin "object.__class__") = some true) && decide (PySem.W.mroIn K D (.type "object") = some true)))))
theorem kit_err {K : PySem.W.Frag} {D a : Addr} {ox : Obj} {od : Option Obj} (h : errB K D = true) : PySem.W.KitX K (.ref a) (.ref D) (fun h => PySem.W.InstAt h a ox D od) := by
  unfold errB at h
  simp only [Bool.and_eq_true, decide_eq_true_eq] at h
  obtain ⟨h1, h2, h3, h4, h5, h6⟩ := h
  have T := xfB_ok h1
  exact PySem.W.kitx_exc h2 T.ga T.gg T.exC h3 h4 h5 h6
/-- isinstance(e, c) of an error -/
def rIsErr (K : PySem.W.Frag) : List V → Hp → VK → Prop := fun xs H Q => ∃ (a D : Addr) (c : V) (cv : Value) (b : Bool), xs = [.ref a, c] ∧ (∀ u, RelV c u → u = cv) ∧ IsErr H a D ∧ errB K D = true ∧ PySem.W.kitOne K (.ref D) cv = some b ∧ Q (.bl b) H
theorem call_isErr : CallR X (.builtin "isinstance") (rIsErr X.K) := by
  intro pins s σ H xs us Q I r h
  obtain ⟨a, D, c, cv, b, rfl, hcv, he, hB, hk, q⟩ := h
  obtain ⟨u, v, rfl, ru, rc⟩ := r.two
  cases ru
  cases hcv v rc
  rcases he with he | ⟨d, fs, he, hd⟩
  · obtain ⟨⟨oe, vs, ho, hz, hdat, _⟩, _, _⟩ := I.hok a _ he
    have J : PySem.W.InstAt s.heap a oe D none := by
      obtain ⟨oc, od, oda, osl⟩ := oe
      obtain ⟨z1, z2⟩ := hz
      dsimp only at z1 z2 hdat
      cases z1
      cases z2
      cases hdat
      exact ⟨ho, rfl, rfl, trivial⟩
    exact PySem.W.kia_one (kit_err hB) I.kIn J hk (fun y => nomatch y) fun tk => ⟨.bl b, H, I.kept (t' := tk) fun _ _ y => y, rfl, q⟩
  · obtain ⟨t1, ho⟩ := exo_at I.hok he
    obtain ⟨mA, ⟨od, es, ep, hod, _⟩, _⟩ := exd_at I.hok hd
    have J : PySem.W.InstAt s.heap a _ D (some od) := ⟨ho, rfl, rfl, hod⟩
    exact PySem.W.kia_one (kit_err hB) I.kIn J hk (fun y => nomatch y) fun tk => ⟨.bl b, H, I.kept (t' := tk) fun _ _ y => y, rfl, q⟩

/-- xs.count(y), flat items -/
def rCntF (K : PySem.W.Frag) : V → List V → Hp → VK → Prop := fun x xs H Q => ∃ (p : Addr) (ys : List V) (y : V), x = .ref p ∧ xs = [y] ∧ SqL K H p ys ∧ flatV y = true ∧ ys.all flatV = true ∧ Q (.int (ys.countP (fun z => eqV z y) : Nat)) H
theorem cnt_eqU {x : V} : ∀ {xs : List V} {us : List Value}, Vals xs us → xs.all flatV = true → us.countP (eqU x) = xs.countP fun y => eqV y x
  | _, _, .nil, _ => rfl
  | y :: xs, u :: us, .cons r t, f => by
    rw [List.all_cons, Bool.and_eq_true] at f
    rw [List.countP_cons, List.countP_cons, cnt_eqU t f.2, eqU_of r f.1]
theorem mt_countF : MtR X "list.count" (rCntF X.K) := by
  intro pins s σ H x xs v us Q I rx rxs h
  obtain ⟨p, ys, y, rfl, rfl, hs, fy, fs, q⟩ := h
  cases rx
  obtain ⟨u, rfl, ru⟩ := rxs.one
  obtain ⟨its, rv, ⟨⟨cl, od, dt, sl⟩, n, ho, hc, hdn, hd⟩, hlen⟩ := I.list hs
  dsimp only at hc hd
  cases hc
  cases hd
  refine call_meets PySem.F.slot_list_count ⟨_, ho, rfl⟩ PySem.F.entry_list_count (PySem.F.args_list_count_2 _ _) (SeqAt.list_countAt p its.toArray n od sl u (eqU y)) ⟨ho, fun w hw => mem_eqAt ru fy rv fs w (by simpa using hw), ?_⟩
  refine ⟨.int (ys.countP (fun z => eqV z y) : Nat), H, I.tok _, ⟨s.toks, ?_⟩, q⟩
  have e : its.toArray.toList.countP (eqU y) = ys.countP (fun z => eqV z y) := cnt_eqU rv fs
  rw [e]
end
end Kv
namespace Kv
open PySem PySem.Spec PyProof.Rows L2

/-- the text of data -/
def Shows (K : PySem.W.Frag) (H : Hp) (x : V) (z : Str) : Prop :=
  (∃ d, Dp K H x d ∧ d.hasDict = false ∧ d.showable = true ∧ d.depth ≤ 60 ∧ d.shown.length ≤ sizeLine ∧ z = d.shown) ∨ ∃ a, x = .ref a ∧ H a = some (.dK []) ∧ z = (PyData.dict []).shown
/-- repr(x) -/
def rRepr (K : PySem.W.Frag) : List V → Hp → VK → Prop := fun xs H Q => ∃ x z, xs = [x] ∧ Shows K H x z ∧ Q (.str z) H
theorem call_reprD {X : Cx} (hg : X.A.guards = some []) (hu : X.A.units + 100 < cLine) : CallR X (.builtin "repr") (rRepr X.K) := by
  intro pins s σ H xs us Q I r h
  obtain ⟨x, z, rfl, hz, q⟩ := h
  obtain ⟨u, rfl, ru⟩ := r.one
  have fin : ∀ tk t, EP X pins σ Q (.str z t) { s with toks := tk } := fun tk t => ⟨.str z, H, I.tok _, ⟨t, rfl⟩, q⟩
  have byRef : ∀ {a : Addr} {d : PyData} {as : List Addr}, Reads s.heap (.ref a) d as → d.showable = true → (d.hasDict = true → sysModules ∉ as) → d.depth ≤ 60 → d.shown.length ≤ sizeLine → z = d.shown →
      wpAny (model X.prog X.w) X.A (call (.builtin "repr") [.ref a]) (EP X pins σ Q) X.xe s := fun {a d as} rd hs hm hdep hl ez =>
    repr_of_reads' rd hs hm hg (by omega) (fun _ _ e => e) (fun h' t tk hk => ⟨.str d.shown, H, I.kept (t' := tk) hk, ⟨t, rfl⟩, by rw [← ez]; exact q⟩) hl
  rcases hz with ⟨d, hd, hn, hs, hdep, hl, ez⟩ | ⟨a, rfl, ha, ez⟩
  · obtain ⟨as, rd⟩ := Dp.reads I d x u hd ru
    cases hd with
    | non =>
      cases ru
      cases ez
      exact PySem.P.repr_of_none (fin _ _)
    | bl b =>
      cases ru
      cases ez
      have e : (PyData.bool b).shown = (if b then "True" else "False" : Str) := PyData.shown_bool b
      exact PySem.P.repr_of_bool (by rw [← e]; exact fin _ _)
    | int i =>
      obtain ⟨t, rfl⟩ := ru
      cases ez
      exact PySem.P.repr_of_int (of_decide_eq_true hs) (fin _ _)
    | str y =>
      obtain ⟨t, rfl⟩ := ru
      cases ez
      exact PySem.P.repr_of_str (fin _ _) hl
    | lst _ _ =>
      cases ru
      exact byRef rd hs (PyData.noDict_hsm hn) hdep hl ez
    | tup _ _ =>
      cases ru
      exact byRef rd hs (PyData.noDict_hsm hn) hdep hl ez
  · cases ru
    obtain ⟨_, hne, vs, kv, o, es, ep, ho, hx, hd, _, he, _⟩ := I.hok a _ ha
    cases kv
    have e0 : es = #[] := by
      obtain ⟨l⟩ := es
      have e1 : Pairs (mixKind X.prog X.w) l [] := he
      cases e1
      rfl
    subst e0
    have rd : Reads s.heap (.ref a) (.dict []) (a :: [] ++ []) := Reads.dict (kvs := []) ho hx.1 hd ReadsAll.nil ReadsAll.nil
    refine byRef rd rfl (fun _ hm => ?_) (by decide) (by decide) ez
    have ea : sysModules = a := List.mem_singleton.mp hm
    rw [← ea] at hne
    exact absurd hne (by decide)
end Kv
namespace K00
open PySem PySem.Spec PyProof.Rows L2 Kv
def top (i : Nat) : Stmt := PySem.Challenge.pw_sparetrees_k00_errors_of_the_package.main.body.getD i (.Pass ⟨0, 0, 0, 0⟩)
abbrev sHand : Stmt := top 38
abbrev sDraw : Stmt := top 39
abbrev sAny : Stmt := top 40
/-! ### the drawer: _law_hand, _law_draw, _law_any -/
/-- the built-ins that the law's head needs -/
structure Bt (mg : Str → Option Value) : Prop where
  len : mg "len" = none
  int : mg "int" = none
  abs : mg "abs" = none
abbrev FnP (K : PySem.W.Frag) (x : Str) (st : Stmt) (f : Addr) (fd : FuncData) : Prop := FunD K x x (defArgs st) (defBody st) (defScope st) [] [] f fd
/-- a def of the top, by its name -/
structure DnP (K : PySem.W.Frag) (mg : Str → Option Value) (x : Str) (st : Stmt) (ps : List Str) (f : Addr) (fd : FuncData) : Prop where
  F : FnP K x st f fd
  g : mg x = some (.ref f)
  b : Binds K fd ps []
/-- the drawer at a -/
def Hand (H : Hp) (a : Addr) : Prop := ∃ (c : Addr) (cells : List Int), H a = some (drw a c) ∧ H c = some (.lst (cells.map V.int))
theorem Hand.keep {H H2 : Hp} {a : Addr} (k : Same H H2) (h : Hand H a) : Hand H2 a := by
  obtain ⟨c, cells, h1, h2⟩ := h
  exact ⟨c, cells, k _ _ h1, k _ _ h2⟩
theorem sameNew {H : Hp} {p : Addr} {o : HO} (h : H p = none) : Same H (upd H p o) := fun b u e => by
  rw [upd_ne (ne_of_none e h)]
  exact e
theorem samePast {H H2 : Hp} {p : Addr} {o : HO} (s : Same H H2) (h : H2 p = none) : Same H (upd H2 p o) := s.trans (sameNew h)
/-- a change of what H does not know -/
theorem samePut {H H2 : Hp} {p : Addr} {o : HO} (s : Same H H2) (h : H p = none) : Same H (upd H2 p o) := fun b u e => by
  rw [upd_ne (ne_of_none e h)]
  exact s b u e
def spDrawC : Sp := fun vs H Q _ => ∃ (a c : Addr) (i d s t m : Int) (cells : List Int), vs = [.ref a, .int m] ∧ 0 < m ∧ m < 1073741824 ∧ 0 ≤ i ∧ H a = some (.lst (five c i d s t)) ∧ H c = some (.lst (cells.map V.int)) ∧
  ∀ r i2 d2 s2 t2, 0 ≤ r → r < m → 0 ≤ i2 → Q (.int r) (upd H a (.lst (five c i2 d2 s2 t2)))
/-- draw(hand, m): some number below m -/
def spDraw : Sp := fun vs H Q _ => ∃ (a : Addr) (m : Int), vs = [.ref a, .int m] ∧ 0 < m ∧ m < 1073741824 ∧ Hand H a ∧ ∀ r : Nat, (r : Int) < m → Q (.int r) H
/-- any(hand, some): some item -/
def spAny (K : PySem.W.Frag) : Sp := fun vs H Q _ => ∃ (a b : Addr) (xs : List V), vs = [.ref a, .ref b] ∧ Hand H a ∧ SqL K H b xs ∧ 0 < xs.length ∧ xs.length < 1073741824 ∧ ∀ (r : Nat) x, xs[r]? = some x → Q x H
/-- hand(script): a new drawer -/
def spHand (K : PySem.W.Frag) : Sp := fun vs H Q _ => ∃ (a : Addr) (ns : List Int), vs = [.ref a] ∧ SqL K H a (ns.map V.int) ∧ ns.length ≤ 63 ∧ ∀ p H2, H p = none → Same H H2 → Hand H2 p → Q (.ref p) H2
section
variable {P : Program} {w : World} {K : PySem.W.Frag} {mg : Str → Option Value} {base : Heap}
theorem rd5 {a c : Addr} {i d s t j : Int} {v : V} {σ : L2.St} {H : Hp} {Q : VK} (h0 : σ[0]? = some (some (.ref a))) (hA : H a = some (.lst (five c i d s t))) (hj : atI (five c i d s t) j = some v) (q : Q v H) : tOp (rIxL K) (tVar 0) (tC (.int j)) σ H Q :=
  ⟨_, h0, a, _, j, v, rfl, rfl, SqL.of hA, hj, q⟩
theorem wr5 {a c : Addr} {i d s t : Int} {v : V} {σ : L2.St} {H : Hp} {Q : L2.St → Hp → Prop} (j : Nat) (h0 : σ[0]? = some (some (.ref a))) (hA : H a = some (.lst (five c i d s t))) (hj : j < 5) (q : Q σ (upd H a (.lst ((five c i d s t).set j v)))) : gSub (tVar 0) (tC (.int (j : Int))) rSetL v σ H Q :=
  ⟨_, h0, a, _, (j : Int), j, rfl, rfl, hA, by
    show ixN 5 (j : Int) = some j
    unfold ixN
    rw [if_pos (by omega), if_pos (by omega)]
    simp, q⟩
theorem scDraw : FnScope ["_law_hand_here", "_law_many", "_law_cell", "_law_digit", "_law_number"] ["_law_hand_here", "_law_many"] (defScope sDraw) := ⟨rfl, rfl, rfl, by decide +kernel, rfl, by decide +kernel, by decide +kernel⟩
theorem ok_drawC {f : Addr} {fd : FuncData} (D : DnP K mg "_law_draw" sDraw ["_law_hand_here", "_law_many"] f fd) (T : Bt mg) : FnOk P w K mg base CX0 1 f fd ["_law_hand_here", "_law_many"] spDrawC := by
  refine D.F.ok scDraw (fun vs H Q E h => ?_) (fun cdv A outer s H vs Q E hr h => ?_)
  · obtain ⟨a, c, i, d, s, t, m, cells, rfl, _⟩ := h
    rfl
  · obtain ⟨a, c, i, d, sd, t, m, cells, rfl, m0, m1, i0, ha, hc, k⟩ := h
    have nca : c ≠ a := ne_of hc ha (fun z => by
      cases cells with
      | nil => cases z
      | cons y ys => cases z)
    refine ⟨_, PSs.nox (C8.pss_cut (ps_if (PW.pt (pw_and (pt_cmpR op_eq (pe_ix ix_list (pv 0) pe_int (fun _ _ => rfl)) pe_int (nomark _))
        (pw_and1 (pt_cmpR op_lt (pe_ix ix_list (pv 0) pe_int (fun _ _ => rfl)) (pe_callB call_len_seq (by rfl) T.len PySem.boot_len (pa_cons (pe_ix ix_list (pv 0) pe_int (fun _ _ => rfl)) pa_nil)) (nomark _)))))
      (pss_cons (ps_set (i := 2) scDraw.nd rfl (Or.inl rfl) (pe_ix ix_list (pe_ix ix_list (pv 0) pe_int (fun _ _ => rfl)) (pe_ix ix_list (pv 0) pe_int (fun _ _ => rfl)) (fun _ _ => rfl)))
      (pss_cons (ps_asg (pe_op op_add (pe_ix ix_list (pv 0) pe_int (fun _ _ => rfl)) pe_int) (pg_sub (pv 0) pe_int set_list))
      (pss_cons (ps_asg (pe_op op_mod (pe_callTy call_int1 (by rfl) T.int boot_int (pa_cons (pe_op op_add (pe_op op_add (pe_op op_mul (pe_ix ix_list (pv 0) pe_int (fun _ _ => rfl)) pe_int) (pv 2)) pe_int) pa_nil)) pe_int) (pg_sub (pv 0) pe_int set_list))
      (pss_one (ps_if (pt_cmpR op_ge (pv 2) (pe_op op_pow pe_int pe_int) (nomark _)) (pss_one (ps_asg (pv 2) (pg_sub (pv 0) pe_int set_list))) pss_nil))))) pss_nil)
      (pss_cons (ps_if (pt_cmpR op_gt (pe_ix ix_list (pv 0) pe_int (fun _ _ => rfl)) pe_int (nomark _))
        (pss_cons (ps_set (i := 3) scDraw.nd rfl (Or.inl rfl) (pe_op op_mod (pe_callTy call_int1 (by rfl) T.int boot_int (pa_cons (pe_ix ix_list (pv 0) pe_int (fun _ _ => rfl)) pa_nil)) (pv 1)))
        (pss_cons (ps_asg (pe_op op_fdivN (pe_ix ix_list (pv 0) pe_int (fun _ _ => rfl)) (pv 1)) (pg_sub (pv 0) pe_int set_list)) (pss_one (ps_ret (pv 3))))) pss_nil)
      (pss_cons (ps_asg (pe_op op_add (pe_ix ix_list (pv 0) pe_int (fun _ _ => rfl)) pe_int) (pg_sub (pv 0) pe_int set_list))
      (pss_cons (ps_set (i := 4) scDraw.nd rfl (Or.inl rfl) (pe_op op_mod (pe_callTy call_int1 (by rfl) T.int boot_int (pa_cons (pe_op op_mul (pe_callTy call_int1 (by rfl) T.int boot_int (pa_cons (pe_op op_add (pe_ix ix_list (pv 0) pe_int (fun _ _ => rfl)) (pe_op op_mul pe_int (pe_ix ix_list (pv 0) pe_int (fun _ _ => rfl)))) pa_nil)) pe_int) pa_nil)) pe_int))
      (pss_cons (ps_set (i := 4) scDraw.nd rfl (Or.inl rfl) (pe_op op_mod (pe_callTy call_int1 (by rfl) T.int boot_int (pa_cons (pe_op op_mul (pv 4) (pe_op op_add (pe_op op_fdiv (pv 4) pe_int) pe_int)) pa_nil)) pe_int))
      (pss_cons (ps_set (i := 4) scDraw.nd rfl (Or.inl rfl) (pe_op op_mod (pe_callTy call_int1 (by rfl) T.int boot_int (pa_cons (pe_op op_mul (pv 4) (pe_op op_add (pe_op op_fdiv (pv 4) pe_int) pe_int)) pa_nil)) pe_int))
      (pss_one (ps_ret (pe_op op_mod (pe_callTy call_int1 (by rfl) T.int boot_int (pa_cons (pe_op op_fdiv (pv 4) pe_int) pa_nil)) (pv 1)))))))))), ?_⟩
    refine ⟨fun σ' H' => ∃ (i d s t : Int) (v : Option V), 0 ≤ i ∧ σ' = [some (.ref a), some (.int m), v, none, none] ∧ H' = upd H a (.lst (five c i d s t)), ?_, ?_⟩
    · -- the first if
      have e0 : upd H a (.lst (five c i d sd t)) = H := by
        funext b
        by_cases hb : b = a
        · rw [hb, upd_same, ha]
        · rw [upd_ne hb]
      refine rd5 rfl ha rfl ⟨rfl, _, rfl, ?_⟩
      refine ite2 (fun hd => ?_) (fun hd => ⟨i, d, sd, t, none, i0, rfl, e0.symm⟩)
      refine rd5 rfl ha rfl ?_
      refine rd5 rfl ha rfl ⟨c, _, rfl, Or.inl (SqL.of hc), i, _, rfl, rfl, _, rfl, ?_⟩
      refine ite2 (fun hlt => ?_) (fun hlt => ⟨i, d, sd, t, none, i0, rfl, e0.symm⟩)
      have hlt2 : i < ((cells.map V.int).length : Int) := of_decide_eq_true hlt
      rw [List.length_map] at hlt2
      have hi : i.toNat < cells.length := by omega
      obtain ⟨cell, hcell⟩ : ∃ cell, cells[i.toNat]? = some cell := ⟨cells[i.toNat], List.getElem?_eq_getElem hi⟩
      have hat : atI (cells.map V.int) i = some (.int cell) := by
        have e : i = (i.toNat : Int) := by omega
        rw [e]
        exact atI_nat (by rw [List.getElem?_map, hcell]; rfl)
      refine rd5 rfl ha rfl ?_
      refine rd5 rfl ha rfl ⟨c, _, i, _, rfl, rfl, SqL.of hc, hat, ?_⟩
      refine rd5 rfl ha rfl ⟨i, 1, rfl, rfl, ?_⟩
      refine wr5 1 rfl ha (by decide) ?_
      refine rd5 (i := i + 1) (d := d) (s := sd) (t := t) (c := c) rfl upd_same rfl ⟨sd, 69621, rfl, rfl, Or.inr (by decide), _, rfl, _, cell, rfl, rfl, _, 11, rfl, rfl, Or.inl ⟨_, rfl, _, 2147483629, rfl, rfl, (by show (0 : Int) < 2147483629; decide), ?_⟩⟩
      refine wr5 (i := i + 1) (d := d) (s := sd) (t := t) (c := c) 3 rfl upd_same (by decide) ?_
      rw [upd_upd]
      refine ⟨_, rfl, 10, 18, rfl, rfl, ⟨by decide, by decide, by decide⟩, cell, _, rfl, rfl, _, rfl, ?_⟩
      refine ite2 (fun _ => ?_) (fun _ => ⟨i + 1, d, _, t, some (.int cell), by omega, rfl, rfl⟩)
      refine ⟨_, rfl, ?_⟩
      refine wr5 (i := i + 1) (d := d) (t := t) (c := c) 2 rfl upd_same (by decide) ?_
      rw [upd_upd]
      exact ⟨i + 1, cell, _, t, some (.int cell), by omega, rfl, rfl⟩
    · rintro σ' H' ⟨i, d, sd, t, v, i0, rfl, rfl⟩
      refine rd5 rfl upd_same rfl ⟨d, 0, rfl, rfl, _, rfl, ?_⟩
      refine ite2 (fun hd => ?_) (fun hd => ?_)
      · refine rd5 rfl upd_same rfl (Or.inl ⟨d, rfl, _, rfl, d, m, rfl, rfl, m0, ?_⟩)
        refine rd5 rfl upd_same rfl ⟨_, rfl, d, m, rfl, rfl, ⟨by omega, by omega⟩, ?_⟩
        refine wr5 2 rfl upd_same (by decide) ⟨_, rfl, ?_⟩
        rw [upd_upd]
        exact k (d % m) i _ sd t (Int.emod_nonneg _ (by omega)) (Int.emod_lt_of_pos _ m0) i0
      · refine rd5 rfl upd_same rfl ⟨t, 1, rfl, rfl, ?_⟩
        refine wr5 4 rfl upd_same (by decide) ?_
        rw [upd_upd]
        refine rd5 (i := i) (d := d) (s := sd) (t := t + 1) (c := c) rfl upd_same rfl ?_
        refine rd5 (i := i) (d := d) (s := sd) (t := t + 1) (c := c) rfl upd_same rfl ⟨7919, _, rfl, rfl, Or.inl (by decide), _, _, rfl, rfl, Or.inl ⟨_, rfl, _, 48271, rfl, rfl, Or.inr (by decide), Or.inl ⟨_, rfl, _, 2147483647, rfl, rfl, (by show (0 : Int) < 2147483647; decide), ?_⟩⟩⟩
        have small : ∀ z : Int, 0 ≤ z % 2147483647 ∧ z % 2147483647 < 2147483647 := fun z => ⟨Int.emod_nonneg _ (by decide), Int.emod_lt_of_pos _ (by decide)⟩
        refine ⟨_, rfl, _, rfl, _, 1009, rfl, rfl, ⟨by decide, by decide⟩, _, 69621, rfl, rfl, _, _, rfl, rfl, Or.inl ?_, Or.inl ⟨_, rfl, _, 2147483647, rfl, rfl, (by show (0 : Int) < 2147483647; decide), ?_⟩⟩
        · have := small ((sd + 7919 * (t + 1)) * 48271)
          omega
        refine ⟨_, rfl, _, rfl, _, 2003, rfl, rfl, ⟨by decide, by decide⟩, _, 40692, rfl, rfl, _, _, rfl, rfl, Or.inl ?_, Or.inl ⟨_, rfl, _, 2147483399, rfl, rfl, (by show (0 : Int) < 2147483399; decide), ?_⟩⟩
        · have := small ((sd + 7919 * (t + 1)) * 48271 % 2147483647 * ((sd + 7919 * (t + 1)) * 48271 % 2147483647 / 1009 + 69621))
          omega
        refine ⟨_, rfl, _, 16, rfl, rfl, ⟨by decide, by decide⟩, Or.inl ⟨_, rfl, _, rfl, _, m, rfl, rfl, m0, ?_⟩⟩
        exact k _ i d sd (t + 1) (Int.emod_nonneg _ (by omega)) (Int.emod_lt_of_pos _ m0) i0
theorem ok_draw {f : Addr} {fd : FuncData} (D : DnP K mg "_law_draw" sDraw ["_law_hand_here", "_law_many"] f fd) (T : Bt mg) : FnOk P w K mg base CX0 1 f fd ["_law_hand_here", "_law_many"] spDraw := by
  refine shut (ok_drawC D T) (fun vs H Q E h => ?_) (fun vs H Q E h => ?_)
  · obtain ⟨a, m, rfl, _⟩ := h
    rfl
  · obtain ⟨a, m, rfl, m0, m1, ⟨c, cells, ha, hc⟩, k⟩ := h
    have nca : c ≠ a := ne_of hc ha (Ne.symm drw_lst)
    refine ⟨a, c, ha, fun i d s t i0 => ⟨a, c, i, d, s, t, m, cells, rfl, m0, m1, i0, upd_same, by rw [upd_ne nca]; exact hc, fun r i2 d2 s2 t2 r0 r1 hi2 => ⟨H, i2, d2, s2, t2, hi2, by rw [upd_upd], ha, ?_⟩⟩⟩
    have e : r = (r.toNat : Int) := by omega
    rw [e]
    exact k r.toNat (by omega)
theorem scAny : FnScope ["_law_hand_here", "_law_some"] ["_law_hand_here", "_law_some"] (defScope sAny) := ⟨rfl, rfl, rfl, by decide +kernel, rfl, by decide +kernel, by decide +kernel⟩
theorem ok_any {f fD : Addr} {fd fdD : FuncData} (D : DnP K mg "_law_any" sAny ["_law_hand_here", "_law_some"] f fd) (DD : DnP K mg "_law_draw" sDraw ["_law_hand_here", "_law_many"] fD fdD) (T : Bt mg) : FnOk P w K mg base CX0 2 f fd ["_law_hand_here", "_law_some"] (spAny K) := by
  have GD : FnOk P w K mg base CX0 1 fD fdD ["_law_hand_here", "_law_many"] spDraw := ok_draw DD T
  refine D.F.ok scAny (fun vs H Q E h => ?_) (fun cdv A outer s H vs Q E hr h => ?_)
  · obtain ⟨a, b, xs, rfl, _⟩ := h
    rfl
  · obtain ⟨a, b, xs, rfl, hH, hS, l0, l1, k⟩ := h
    refine ⟨_, PSs.nox (pss_one (ps_ret (pe_ix ix_list (pv 1) (pe_call GD hr (by rfl) DD.g DD.F.kp DD.b .nil pass0 (pa_cons (pv 0) (pa_cons (pe_callB call_len_seq (by rfl) T.len PySem.boot_len (pa_cons (pv 1) pa_nil)) pa_nil))) (fun _ _ => rfl)))), ?_⟩
    refine ⟨_, rfl, _, rfl, _, rfl, b, xs, rfl, Or.inl hS, a, _, rfl, by omega, by omega, hH, fun r hr => ?_⟩
    have hrl : r < xs.length := by omega
    exact ⟨b, xs, (r : Int), xs[r], rfl, rfl, hS, atI_nat (List.getElem?_eq_getElem hrl), k r _ (List.getElem?_eq_getElem hrl)⟩
theorem mem_cutV {xs : List V} {lo hi : Option Int} {x : V} (h : x ∈ cutV xs lo hi) : x ∈ xs := List.mem_of_mem_drop (List.mem_of_mem_take h)
theorem scHand : FnScope ["_law_script", "_law_cells", "_law_cell"] ["_law_script"] (defScope sHand) := ⟨rfl, rfl, rfl, by decide +kernel, rfl, by decide +kernel, by decide +kernel⟩
def spHandC (K : PySem.W.Frag) : Sp := fun vs H Q _ => ∃ (a : Addr) (ns : List Int), vs = [.ref a] ∧ SqL K H a (ns.map V.int) ∧ ns.length ≤ 63 ∧ ∀ p c (s : Int) (cells : List Int) H2, H p = none → c ≠ p → Same H H2 → H2 p = some (.lst (five c 0 0 s 0)) → H2 c = some (.lst (cells.map V.int)) → Q (.ref p) H2
theorem ok_handC {f : Addr} {fd : FuncData} (D : DnP K mg "_law_hand" sHand ["_law_script"] f fd) (T : Bt mg) : FnOk P w K mg base CX0 1 f fd ["_law_script"] (spHandC K) := by
  refine D.F.ok scHand (fun vs H Q E h => ?_) (fun cdv A outer s H vs Q E hr h => ?_)
  · obtain ⟨a, ns, rfl, _⟩ := h
    rfl
  · obtain ⟨a, ns, rfl, hS, hlen, k⟩ := h
    refine ⟨_, PSs.nox (pss_cons (ps_setLc (i := 1) (own := [("_law_cell", 2)]) (g := gName 2) (tt := tYes) rfl scHand.nd rfl rfl (sw_true rfl rfl rfl (by decide +kernel)) (pi_list (pe_slice sl_list (pv 0) po_none (po_some pe_int)))
        (blkOk_by (N := ["_law_script", "_law_cells", "_law_cell"]) (sc := defScope sHand) (by decide +kernel)) (fun _ _ _ _ _ => pg_name (i := 2) scHand.nd rfl (Or.inl rfl)) (fun _ _ _ _ _ => pts_nil)
        (fun _ _ _ _ _ => pe_callB call_abs (by rfl) T.abs boot_abs (pa_cons (pe_callTy call_int1 (by rfl) T.int boot_int (pa_cons (pv 2) pa_nil)) pa_nil)))
      (pss_one (ps_ret (pe_lst (pa_cons (pv 1) (pa_cons pe_int (pa_cons pe_int (pa_cons (pe_op op_add pe_int (pe_callB call_len_seq (by rfl) T.len PySem.boot_len (pa_cons (pv 1) pa_nil))) (pa_cons pe_int pa_nil))))))))), ?_⟩
    refine ⟨_, rfl, 63, rfl, a, _, rfl, hS, fun p np => ?_⟩
    have itms : ∀ {i : Nat} {x : V}, (cutV (ns.map V.int) none (some 63))[i]? = some x → ∃ z, x = V.int z := fun {i x} e => by
      obtain ⟨z, _, ez⟩ := List.mem_map.mp (mem_cutV (List.mem_of_getElem? e))
      exact ⟨z, ez.symm⟩
    have len63 : (cutV (ns.map V.int) none (some 63)).length ≤ 63 := Nat.le_trans (cutV_length _ _ _) (by rw [List.length_map]; exact hlen)
    refine ⟨p, rfl, ⟨_, SqL.of upd_same⟩, fun C nC => ?_⟩
    have npC : p ≠ C := fun z => by
      rw [← z, upd_same] at nC
      cases nC
    have nC0 : H C = none := by
      rw [upd_ne npC.symm] at nC
      exact nC
    refine lc_list (K := K) (a := p) (xs := cutV (ns.map V.int) none (some 63)) (fun i H2 => Same (upd H p (.lst (cutV (ns.map V.int) none (some 63)))) H2 ∧ ∃ acc : List Int, acc.length = i ∧ H2 C = some (.lst (acc.map V.int)))
      ⟨sameNew nC, [], rfl, upd_same⟩ (fun i H2 _ h2 => SqL.of (h2.1 _ _ upd_same)) (fun i x H2 hx h2 => ?_) (fun H2 h2 => ?_)
    · obtain ⟨s2, acc, rfl, hC⟩ := h2
      obtain ⟨z, rfl⟩ := itms hx
      have hi : acc.length < 63 := Nat.lt_of_lt_of_le (List.getElem?_eq_some_iff.mp hx).1 len63
      refine ⟨rfl, ?_⟩
      refine ⟨_, rfl, Or.inl ⟨z, rfl, z, rfl, _, hC, ?_, ?_⟩⟩
      · rw [List.length_map]
        exact Nat.lt_trans hi (by decide)
      · refine ⟨samePut s2 nC, acc ++ [if z < 0 then -z else z], by simp, ?_⟩
        rw [upd_same, List.map_append]
        rfl
    · obtain ⟨s2, acc, _, hC⟩ := h2
      refine ⟨_, rfl, _, rfl, C, _, rfl, Or.inl (SqL.of hC), 1, _, rfl, rfl, (by show 5 ≤ sizeLine; decide), fun q nq => ?_⟩
      have nqC : C ≠ q := ne_of_none hC nq
      refine k q C _ acc _ ((sameNew np).trans s2 |>.free nq) nqC (((sameNew np).trans s2).trans (sameNew nq)) upd_same ?_
      rw [upd_ne nqC]
      exact hC
theorem ok_hand {f : Addr} {fd : FuncData} (D : DnP K mg "_law_hand" sHand ["_law_script"] f fd) (T : Bt mg) : FnOk P w K mg base CX0 1 f fd ["_law_script"] (spHand K) := by
  refine shutNew (ok_handC D T) (fun vs H Q E h => ?_) (fun vs H Q E h => ?_)
  · obtain ⟨a, ns, rfl, _⟩ := h
    rfl
  · obtain ⟨a, ns, rfl, hS, hlen, k⟩ := h
    refine ⟨a, ns, rfl, hS, hlen, fun p c s cells H2 np nc s2 hp hc => ⟨p, c, 0, 0, s, 0, Int.le_refl _, hp, k p _ np (samePut s2 np) ⟨c, cells, upd_same, ?_⟩⟩⟩
    rw [upd_ne nc]
    exact hc
end
end K00
namespace K00
open PySem PySem.Spec PyProof.Rows L2 Kv

abbrev sDeep : Stmt := top 41
abbrev sWf : Stmt := top 42
abbrev sPlain : Stmt := top 43
abbrev sKinds : Stmt := top 44
abbrev sLaw : Stmt := top 45
abbrev sIBadNet : Stmt := inClass (top 30) 0
abbrev sIBarred : Stmt := inClass (top 32) 0
abbrev sITooMany : Stmt := inClass (top 33) 0
abbrev sIBadWeb : Stmt := inClass (top 31) 0
abbrev sICrossed : Stmt := inClass (top 34) 0
abbrev sICrowded : Stmt := inClass (top 35) 0
abbrev sIResting : Stmt := inClass (top 36) 0
def names35 : List Str := ((["BadNet", "BadWeb", "Barred", "Crossed", "Crowded", "NoFrame", "NoFrames", "NoGrown", "NoHeard", "NoLine", "NoLines", "NoLink", "NoLosses", "NoLot", "NoNet"] : List Str) ++ (["NoNumber", "NoPacking", "NoPair", "NoParting", "NoParts", "NoPlace", "NoPlan", "NoPrices", "NoPrime", "NoRoots", "NoSide", "NoSpanners", "NoTie", "NoTree", "NoWeb"] : List Str) ++ (["NoWidths", "NotParted", "Resting", "TooMany", "Unlike"] : List Str))
def names28 : List Str := ((["NoNet", "NoLot", "NoSide", "NoNumber", "NoPlace", "NoGrown", "NoTree", "NoRoots", "NoParts", "NoWidths", "NoWeb", "NoParting", "NoSpanners", "NotParted", "NoTie"] : List Str) ++ (["NoPrices", "NoPrime", "NoFrame", "NoHeard", "NoPacking", "NoPlan", "NoLosses", "NoFrames", "Unlike", "NoLink", "NoPair", "NoLine", "NoLines"] : List Str))
def names7 : List Str := (["BadNet", "Barred", "TooMany", "BadWeb", "Crossed", "Crowded", "Resting"] : List Str)
def flds7 : List (Str × Str) := [("BadNet", "part"), ("Barred", "side"), ("TooMany", "most"), ("BadWeb", "part"), ("Crossed", "parting"), ("Crowded", "lot"), ("Resting", "left")]
/-! ### what the top says of the classes -/
structure Bu (mg : Str → Option Value) : Prop extends Bt mg where
  isi : mg "isinstance" = none
  rng : mg "range" = none
  rep : mg "repr" = none
  set : mg "set" = none
  ve : mg "ValueError" = none
structure Cl (K : PySem.W.Frag) (mg : Str → Option Value) : Prop where
  g0 : ∀ x ∈ names35, mg x = some (.ref (He.ga K x))
  gT : mg "TreeError" = some (.ref (He.ga K "TreeError"))
  x0 : ∀ x ∈ names28, PySem.W.excIn K (He.ga K x) He.veBase "ValueError.__new__" = true
  k0 : ∀ x ∈ names28, PySem.W.keepIn K (.ref (He.ga K x)) = true
  eB : ∀ x ∈ names35, errB K (He.ga K x) = true
  kit : ∀ x ∈ names35, ∀ y ∈ names35, PySem.W.kitOne K (.ref (He.ga K x)) (.ref (He.ga K y)) = some (decide (x = y))
  kT : ∀ x ∈ names35, PySem.W.kitOne K (.ref (He.ga K x)) (.ref (He.ga K "TreeError")) = some true
  kV : ∀ x ∈ names35, PySem.W.kitOne K (.ref (He.ga K x)) (.type "ValueError") = some true
theorem Cl.g {K : PySem.W.Frag} {mg : Str → Option Value} (C : Cl K mg) (x : Str) (h : x ∈ names35) : mg x = some (.ref (He.ga K x)) := C.g0 x h
theorem Cl.x {K : PySem.W.Frag} {mg : Str → Option Value} (C : Cl K mg) (x : Str) (h : x ∈ names28) : PySem.W.excIn K (He.ga K x) He.veBase "ValueError.__new__" = true := C.x0 x h
theorem Cl.k {K : PySem.W.Frag} {mg : Str → Option Value} (C : Cl K mg) (x : Str) (h : x ∈ names28) : PySem.W.keepIn K (.ref (He.ga K x)) = true := C.k0 x h
/-- a class with the one field f -/
structure CI (K : PySem.W.Frag) (x f : Str) (fI : Addr) : Prop where
  ox : OexC K (He.ga K x)
  xf : XfC K (He.ga K x)
  ini : PySem.W.findIn K (.ref (He.ga K x)) "__init__" = some (some (.ref fI))
  fn : PySem.W.typeIn K (.ref fI) = some (.type "function")
  no : PySem.W.findIn K (.ref (He.ga K x)) f = some none
/-! ### the promises -/
def spI (f : Str) (C : Addr) : Sp := fun vs H Q _ => ∃ (a : Addr) (v : V), vs = [.ref a, v] ∧ H a = some (exo a C none) ∧ ∀ d, H d = none → d ≠ a → Q .non (upd (upd H d (exd d [(f, v)])) a (exo a C (some d)))
def spKinds (K : PySem.W.Frag) : Sp := fun vs H Q _ => ∃ (a : Addr) (x : Str), vs = [.ref a] ∧ x ∈ names35 ∧ IsErr H a (He.ga K x) ∧ ∀ p H2, H p = none → Same H H2 → H2 p = some (.lst (names35.map fun y => .bl (decide (x = y)))) → Q (.ref p) H2
/-- at the addresses as: errors of the classes ys -/
def Errs (K : PySem.W.Frag) (H : Hp) (as : List Addr) (ys : List Str) : Prop := as.length = ys.length ∧ ∀ (i : Nat) a y, as[i]? = some a → ys[i]? = some y → IsErr H a (He.ga K y)
def spPlain (K : PySem.W.Frag) : Sp := fun vs H Q _ => vs = [] ∧ ∀ p as H2, H p = none → Same H H2 → H2 p = some (.lst (as.map V.ref)) → Errs K H2 as names28 → Q (.ref p) H2
def spWf (K : PySem.W.Frag) : Sp := fun vs H Q _ => ∃ (j : Nat) (v : V), vs = [.int (j : Int), v] ∧ j < 7 ∧ ∀ p x H2, H p = none → Same H H2 → H2 p = some (.tup [v, .ref x]) → IsErr H2 x (He.ga K (names7.getD j "")) → Q (.ref p) H2
/-! ### lists of isinstance(e, ..), of new errors -/
def kTA (K : PySem.W.Frag) : List Str → TA
  | [] => tNil
  | y :: r => tCons (tCB (rIsErr K) (tCons (tVar 0) (tCons (tC (.ref (He.ga K y))) tNil))) (kTA K r)
def nTA (K : PySem.W.Frag) : List Str → TA
  | [] => tNil
  | y :: r => tCons (tExc0 (He.ga K y)) (nTA K r)
section
variable {K : PySem.W.Frag} {mg : Str → Option Value}
theorem kTA_ok (C : Cl K mg) {x : Str} (hx : x ∈ names35) {a : Addr} {σ : L2.St} {H : Hp} (h0 : σ[0]? = some (some (.ref a))) (he : IsErr H a (He.ga K x)) : ∀ (ys : List Str) (Q : List V → Hp → Prop), (ys.all fun y => names35.contains y) = true → Q (ys.map fun y => .bl (decide (x = y))) H → kTA K ys σ H Q
  | [], Q, _, q => q
  | y :: r, Q, hm, q => by
    rw [List.all_cons, Bool.and_eq_true] at hm
    exact ⟨_, h0, a, He.ga K x, .ref (He.ga K y), _, _, rfl, fun u ru => ru, he, C.eB x hx, C.kit x hx y (List.contains_iff_mem.mp hm.1), kTA_ok C hx h0 he r _ hm.2 q⟩
theorem kStart (C : Cl K mg) {x : Str} (hx : x ∈ names35) {a : Addr} {H : Hp} (he : IsErr H a (He.ga K x)) {zs : List Str} {D : Ends} {u : TS} (hz : (zs.all fun y => names35.contains y) = true ∧ zs.length ≤ 100)
    (k : ∀ p H2, Same H H2 → H2 p = some (.lst (zs.map fun y => .bl (decide (x = y)))) → u D [some (.ref a), some (.ref p)] H2) : tSeq (tAsg (tLst (kTA K zs)) (gName 1)) u D [some (.ref a), none] H :=
  kTA_ok C hx rfl he zs _ hz.1 ⟨by rw [List.length_map]; exact Nat.le_trans hz.2 (by decide), fun p np => k p _ (sameNew np) upd_same⟩
theorem catNew {H H1 : Hp} {p : Addr} {xs ys : List V} {Q : VK} (s1 : Same H H1) (h1 : H1 p = some (.lst xs)) (hl : xs.length + ys.length ≤ 1000) (k : ∀ q H2, H q = none → Same H H2 → H2 q = some (.lst (xs ++ ys)) → Q (.ref q) H2) {b : Addr} (nb : H1 b = none) : rCat (.ref p) (.ref b) (upd H1 b (.lst ys)) Q := by
  have n : p ≠ b := ne_of_none h1 nb
  refine ⟨p, b, xs, ys, rfl, rfl, by rw [upd_ne n]; exact h1, upd_same, Nat.le_trans hl (by decide), fun q nq => ?_⟩
  have s2 : Same H (upd (upd H1 b (.lst ys)) q (.lst (xs ++ ys))) := samePast (samePast s1 nb) nq
  exact k q _ ((samePast s1 nb).free nq) s2 upd_same
theorem kCat (C : Cl K mg) {x : Str} (hx : x ∈ names35) {a p : Addr} {H H1 : Hp} {Q : VK} {zs ys : List Str} (he : IsErr H1 a (He.ga K x)) (s1 : Same H H1) (h1 : H1 p = some (.lst (zs.map fun y => .bl (decide (x = y))))) (hy : (ys.all fun y => names35.contains y) = true ∧ zs.length + ys.length ≤ 100)
    (k : ∀ q H2, H q = none → Same H H2 → H2 q = some (.lst ((zs ++ ys).map fun y => .bl (decide (x = y)))) → Q (.ref q) H2) : tOp rCat (tVar 1) (tLst (kTA K ys)) [some (.ref a), some (.ref p)] H1 Q := by
  refine ⟨_, rfl, kTA_ok C hx rfl he ys _ hy.1 ⟨by rw [List.length_map]; exact Nat.le_trans (Nat.le_of_add_left_le hy.2) (by decide), fun b nb => ?_⟩⟩
  refine catNew s1 h1 (by rw [List.length_map, List.length_map]; exact Nat.le_trans hy.2 (by decide)) (fun q H2 nq s2 h2 => k q H2 nq s2 ?_) nb
  rw [h2, List.map_append]
theorem kStep (C : Cl K mg) {x : Str} (hx : x ∈ names35) {a p : Addr} {H H1 : Hp} {D : Ends} {u : TS} {zs ys : List Str} (he : IsErr H1 a (He.ga K x)) (s1 : Same H H1) (h1 : H1 p = some (.lst (zs.map fun y => .bl (decide (x = y))))) (hy : (ys.all fun y => names35.contains y) = true ∧ zs.length + ys.length ≤ 100)
    (k : ∀ q H2, Same H H2 → H2 q = some (.lst ((zs ++ ys).map fun y => .bl (decide (x = y)))) → u D [some (.ref a), some (.ref q)] H2) : tSeq (tAsg (tOp rCat (tVar 1) (tLst (kTA K ys))) (gName 1)) u D [some (.ref a), some (.ref p)] H1 :=
  kCat C hx he s1 h1 hy fun q H2 _ s2 h2 => k q H2 s2 h2
theorem kLast (C : Cl K mg) {x : Str} (hx : x ∈ names35) {a p : Addr} {H H1 : Hp} {D : Ends} {zs ys : List Str} (he : IsErr H1 a (He.ga K x)) (s1 : Same H H1) (h1 : H1 p = some (.lst (zs.map fun y => .bl (decide (x = y))))) (hy : (ys.all fun y => names35.contains y) = true ∧ zs.length + ys.length ≤ 100)
    (k : ∀ q H2, H q = none → Same H H2 → H2 q = some (.lst ((zs ++ ys).map fun y => .bl (decide (x = y)))) → D.rt (.ref q) H2) : tRet (tOp rCat (tVar 1) (tLst (kTA K ys))) D [some (.ref a), some (.ref p)] H1 := kCat C hx he s1 h1 hy k

theorem Errs.keep {H H2 : Hp} {as : List Addr} {ys : List Str} (s : Same H H2) (h : Errs K H as ys) : Errs K H2 as ys := ⟨h.1, fun i a y e1 e2 => (h.2 i a y e1 e2).keep s⟩
theorem Errs.nil {H : Hp} : Errs K H [] [] := ⟨rfl, fun i a y e1 _ => by simp at e1⟩
theorem Errs.cons {H : Hp} {a : Addr} {y : Str} {as : List Addr} {ys : List Str} (e : IsErr H a (He.ga K y)) (h : Errs K H as ys) : Errs K H (a :: as) (y :: ys) := by
  refine ⟨by rw [List.length_cons, List.length_cons, h.1], fun i b z e1 e2 => ?_⟩
  cases i with
  | zero =>
    simp at e1 e2
    rw [← e1, ← e2]
    exact e
  | succ i => exact h.2 i b z (by simpa using e1) (by simpa using e2)
theorem Errs.append {H : Hp} {bs : List Addr} {zs : List Str} (hb : Errs K H bs zs) : ∀ {as : List Addr} {ys : List Str}, Errs K H as ys → Errs K H (as ++ bs) (ys ++ zs)
  | [], [], _ => hb
  | [], y :: ys, h => absurd h.1 (by simp)
  | a :: as, [], h => absurd h.1 (by simp)
  | a :: as, y :: ys, h => Errs.cons (h.2 0 a y rfl rfl) (Errs.append hb ⟨by have := h.1; simpa using this, fun i b z e1 e2 => h.2 (i + 1) b z (by simpa using e1) (by simpa using e2)⟩)
theorem nTA_ok {σ : L2.St} {H : Hp} : ∀ (ys : List Str) (H1 : Hp) (Q : List V → Hp → Prop), Same H H1 → (∀ as H2, Same H1 H2 → Errs K H2 as ys → Q (as.map V.ref) H2) → nTA K ys σ H1 Q
  | [], H1, Q, _, q => q [] H1 (Same.refl _) Errs.nil
  | y :: r, H1, Q, s, q => fun a na => nTA_ok r _ _ (samePast s na) fun as H2 s2 h2 => q (a :: as) H2 ((sameNew na).trans s2) (Errs.cons (Or.inl (s2 _ _ upd_same)) h2)
theorem nStart {H : Hp} {zs : List Str} {D : Ends} {u : TS} (hz : zs.length ≤ 100)
    (k : ∀ p as H2, Same H H2 → H2 p = some (.lst (as.map V.ref)) → Errs K H2 as zs → u D [some (.ref p)] H2) : tSeq (tAsg (tLst (nTA K zs)) (gName 0)) u D [none] H :=
  nTA_ok zs H _ (Same.refl _) fun as H2 s2 h2 => ⟨by rw [List.length_map, h2.1]; exact Nat.le_trans hz (by decide), fun p np => k p as _ (samePast s2 np) upd_same (h2.keep (sameNew np))⟩
theorem nCat {p : Addr} {as : List Addr} {H H1 : Hp} {Q : VK} {zs ys : List Str} (s1 : Same H H1) (h1 : H1 p = some (.lst (as.map V.ref))) (e1 : Errs K H1 as zs) (hy : zs.length + ys.length ≤ 100)
    (k : ∀ q bs H2, H q = none → Same H H2 → H2 q = some (.lst (bs.map V.ref)) → Errs K H2 bs (zs ++ ys) → Q (.ref q) H2) : tOp rCat (tVar 0) (tLst (nTA K ys)) [some (.ref p)] H1 Q := by
  refine ⟨_, rfl, nTA_ok ys H1 _ (Same.refl _) fun bs H2 s2 h2 => ⟨by rw [List.length_map, h2.1]; exact Nat.le_trans (Nat.le_of_add_left_le hy) (by decide), fun b nb => ?_⟩⟩
  have n : p ≠ b := ne_of_none (s2 _ _ h1) nb
  refine ⟨p, b, _, _, rfl, rfl, by rw [upd_ne n]; exact s2 _ _ h1, upd_same, by rw [List.length_map, List.length_map, h2.1, e1.1]; exact Nat.le_trans hy (by decide), fun q nq => ?_⟩
  have s3 : Same H2 (upd (upd H2 b (.lst (bs.map V.ref))) q (.lst (as.map V.ref ++ bs.map V.ref))) := samePast (sameNew nb) nq
  refine k q (as ++ bs) _ ((s1.trans s2).free ((sameNew nb).free nq)) ((s1.trans s2).trans s3) ?_ (Errs.append (h2.keep s3) (e1.keep (s2.trans s3)))
  rw [upd_same, List.map_append]
theorem nStep {p : Addr} {as : List Addr} {H H1 : Hp} {D : Ends} {u : TS} {zs ys : List Str} (s1 : Same H H1) (h1 : H1 p = some (.lst (as.map V.ref))) (e1 : Errs K H1 as zs) (hy : zs.length + ys.length ≤ 100)
    (k : ∀ q bs H2, Same H H2 → H2 q = some (.lst (bs.map V.ref)) → Errs K H2 bs (zs ++ ys) → u D [some (.ref q)] H2) : tSeq (tAsg (tOp rCat (tVar 0) (tLst (nTA K ys))) (gName 0)) u D [some (.ref p)] H1 :=
  nCat s1 h1 e1 hy fun q bs H2 _ s2 h2 e2 => k q bs H2 s2 h2 e2
theorem nLast {p : Addr} {as : List Addr} {H H1 : Hp} {D : Ends} {zs ys : List Str} (s1 : Same H H1) (h1 : H1 p = some (.lst (as.map V.ref))) (e1 : Errs K H1 as zs) (hy : zs.length + ys.length ≤ 100)
    (k : ∀ q bs H2, H q = none → Same H H2 → H2 q = some (.lst (bs.map V.ref)) → Errs K H2 bs (zs ++ ys) → D.rt (.ref q) H2) : tRet (tOp rCat (tVar 0) (tLst (nTA K ys))) D [some (.ref p)] H1 := nCat s1 h1 e1 hy k
/-- a new error with a field -/
theorem excI_ok {x f : Str} {fI : Addr} {v : V} {σ : L2.St} {H : Hp} {Q : VK} (h1 : σ[1]? = some (some v)) (k : ∀ a d H2, H a = none → Same H H2 → H2 a = some (exo a (He.ga K x) (some d)) → H2 d = some (exd d [(f, v)]) → Q (.ref a) H2) :
    tExcI (He.ga K x) (spI f (He.ga K x)) (tCons (tVar 1) tNil) σ H Q := by
  refine ⟨v, h1, (by show 1 ≤ 1000; decide), fun a na => ⟨a, v, rfl, upd_same, fun d nd hd => ⟨rfl, ?_⟩⟩⟩
  have nd0 : H d = none := by
    rw [upd_ne hd] at nd
    exact nd
  refine k a d _ na ?_ upd_same (by rw [upd_ne hd, upd_same])
  exact samePut (samePut (sameNew na) nd0) na
theorem wfRet {x f : Str} {fI : Addr} (T : CI K x f fI) {v : V} {i : Option V} {H : Hp} {D : Ends} (k : ∀ p a H2, H p = none → Same H H2 → H2 p = some (.tup [v, .ref a]) → IsErr H2 a (He.ga K x) → D.rt (.ref p) H2) :
    tRet (tTup (tCons (tErrF K f (tExcI (He.ga K x) (spI f (He.ga K x)) (tCons (tVar 1) tNil))) (tCons (tExcI (He.ga K x) (spI f (He.ga K x)) (tCons (tVar 1) tNil)) tNil))) D [i, some v] H := by
  have goal : tExcI (He.ga K x) (spI f (He.ga K x)) (tCons (tVar 1) tNil) [i, some v] H (fun y H1 => ∃ a C d fs v0, y = .ref a ∧ H1 a = some (exo a C (some d)) ∧ H1 d = some (exd d fs) ∧ XfC K C ∧ PySem.W.findIn K (.ref C) f = some none ∧ fs.lookup f = some v0 ∧
      tExcI (He.ga K x) (spI f (He.ga K x)) (tCons (tVar 1) tNil) [i, some v] H1 (fun z H2 => [v0, z].length ≤ sizeLine ∧ ∀ p, H2 p = none → D.rt (.ref p) (upd H2 p (.tup [v0, z])))) := by
    refine excI_ok (fI := fI) (σ := [i, some v]) (v := v) rfl fun a d H2 na s2 ha hd => ⟨a, _, d, _, v, rfl, ha, hd, T.xf, T.no, by simp [List.lookup], ?_⟩
    refine excI_ok (fI := fI) (σ := [i, some v]) (v := v) rfl fun b d2 H3 nb s3 hb hd2 => ⟨by show 2 ≤ sizeLine; decide, fun p np => ?_⟩
    have s4 := s2.trans s3
    exact k p b _ (s4.free np) (samePast s4 np) upd_same (IsErr.keep (sameNew np) (Or.inr ⟨d2, _, hb, hd2⟩))
  exact goal
end
section
variable {P : Program} {w : World} {K : PySem.W.Frag} {mg : Str → Option Value} {base : Heap}

theorem scIBadNet : FnScope ["self", "part"] ["self", "part"] (defScope sIBadNet) := ⟨rfl, rfl, rfl, by decide +kernel, rfl, by decide +kernel, by decide +kernel⟩
theorem ok_IBadNet {fI : Addr} {fd : FuncData} (F : FunD K "__init__" "BadNet.__init__" (defArgs sIBadNet) (defBody sIBadNet) (defScope sIBadNet) [] [] fI fd) (T : CI K "BadNet" "part" fI) : FnOk P w K mg base CX0 1 fI fd ["self", "part"] (spI "part" (He.ga K "BadNet")) := by
  refine F.ok scIBadNet (fun vs H Q E h => ?_) (fun cdv A outer s H vs Q E hr h => ⟨_, PSs.nox (pss_one (ps_ost (pv 0) (pv 1) rfl)), ?_⟩)
  · obtain ⟨a, v, rfl, _⟩ := h
    rfl
  · obtain ⟨a, v, rfl, ha, k⟩ := h
    exact ⟨_, rfl, _, rfl, a, _, rfl, T.ox, T.no, Or.inl ⟨ha, fun d hd hn => k d hd hn⟩⟩
theorem scIBarred : FnScope ["self", "side"] ["self", "side"] (defScope sIBarred) := ⟨rfl, rfl, rfl, by decide +kernel, rfl, by decide +kernel, by decide +kernel⟩
theorem ok_IBarred {fI : Addr} {fd : FuncData} (F : FunD K "__init__" "Barred.__init__" (defArgs sIBarred) (defBody sIBarred) (defScope sIBarred) [] [] fI fd) (T : CI K "Barred" "side" fI) : FnOk P w K mg base CX0 1 fI fd ["self", "side"] (spI "side" (He.ga K "Barred")) := by
  refine F.ok scIBarred (fun vs H Q E h => ?_) (fun cdv A outer s H vs Q E hr h => ⟨_, PSs.nox (pss_one (ps_ost (pv 0) (pv 1) rfl)), ?_⟩)
  · obtain ⟨a, v, rfl, _⟩ := h
    rfl
  · obtain ⟨a, v, rfl, ha, k⟩ := h
    exact ⟨_, rfl, _, rfl, a, _, rfl, T.ox, T.no, Or.inl ⟨ha, fun d hd hn => k d hd hn⟩⟩
theorem scITooMany : FnScope ["self", "most"] ["self", "most"] (defScope sITooMany) := ⟨rfl, rfl, rfl, by decide +kernel, rfl, by decide +kernel, by decide +kernel⟩
theorem ok_ITooMany {fI : Addr} {fd : FuncData} (F : FunD K "__init__" "TooMany.__init__" (defArgs sITooMany) (defBody sITooMany) (defScope sITooMany) [] [] fI fd) (T : CI K "TooMany" "most" fI) : FnOk P w K mg base CX0 1 fI fd ["self", "most"] (spI "most" (He.ga K "TooMany")) := by
  refine F.ok scITooMany (fun vs H Q E h => ?_) (fun cdv A outer s H vs Q E hr h => ⟨_, PSs.nox (pss_one (ps_ost (pv 0) (pv 1) rfl)), ?_⟩)
  · obtain ⟨a, v, rfl, _⟩ := h
    rfl
  · obtain ⟨a, v, rfl, ha, k⟩ := h
    exact ⟨_, rfl, _, rfl, a, _, rfl, T.ox, T.no, Or.inl ⟨ha, fun d hd hn => k d hd hn⟩⟩
theorem scIBadWeb : FnScope ["self", "part"] ["self", "part"] (defScope sIBadWeb) := ⟨rfl, rfl, rfl, by decide +kernel, rfl, by decide +kernel, by decide +kernel⟩
theorem ok_IBadWeb {fI : Addr} {fd : FuncData} (F : FunD K "__init__" "BadWeb.__init__" (defArgs sIBadWeb) (defBody sIBadWeb) (defScope sIBadWeb) [] [] fI fd) (T : CI K "BadWeb" "part" fI) : FnOk P w K mg base CX0 1 fI fd ["self", "part"] (spI "part" (He.ga K "BadWeb")) := by
  refine F.ok scIBadWeb (fun vs H Q E h => ?_) (fun cdv A outer s H vs Q E hr h => ⟨_, PSs.nox (pss_one (ps_ost (pv 0) (pv 1) rfl)), ?_⟩)
  · obtain ⟨a, v, rfl, _⟩ := h
    rfl
  · obtain ⟨a, v, rfl, ha, k⟩ := h
    exact ⟨_, rfl, _, rfl, a, _, rfl, T.ox, T.no, Or.inl ⟨ha, fun d hd hn => k d hd hn⟩⟩
theorem scICrossed : FnScope ["self", "parting"] ["self", "parting"] (defScope sICrossed) := ⟨rfl, rfl, rfl, by decide +kernel, rfl, by decide +kernel, by decide +kernel⟩
theorem ok_ICrossed {fI : Addr} {fd : FuncData} (F : FunD K "__init__" "Crossed.__init__" (defArgs sICrossed) (defBody sICrossed) (defScope sICrossed) [] [] fI fd) (T : CI K "Crossed" "parting" fI) : FnOk P w K mg base CX0 1 fI fd ["self", "parting"] (spI "parting" (He.ga K "Crossed")) := by
  refine F.ok scICrossed (fun vs H Q E h => ?_) (fun cdv A outer s H vs Q E hr h => ⟨_, PSs.nox (pss_one (ps_ost (pv 0) (pv 1) rfl)), ?_⟩)
  · obtain ⟨a, v, rfl, _⟩ := h
    rfl
  · obtain ⟨a, v, rfl, ha, k⟩ := h
    exact ⟨_, rfl, _, rfl, a, _, rfl, T.ox, T.no, Or.inl ⟨ha, fun d hd hn => k d hd hn⟩⟩
theorem scICrowded : FnScope ["self", "lot"] ["self", "lot"] (defScope sICrowded) := ⟨rfl, rfl, rfl, by decide +kernel, rfl, by decide +kernel, by decide +kernel⟩
theorem ok_ICrowded {fI : Addr} {fd : FuncData} (F : FunD K "__init__" "Crowded.__init__" (defArgs sICrowded) (defBody sICrowded) (defScope sICrowded) [] [] fI fd) (T : CI K "Crowded" "lot" fI) : FnOk P w K mg base CX0 1 fI fd ["self", "lot"] (spI "lot" (He.ga K "Crowded")) := by
  refine F.ok scICrowded (fun vs H Q E h => ?_) (fun cdv A outer s H vs Q E hr h => ⟨_, PSs.nox (pss_one (ps_ost (pv 0) (pv 1) rfl)), ?_⟩)
  · obtain ⟨a, v, rfl, _⟩ := h
    rfl
  · obtain ⟨a, v, rfl, ha, k⟩ := h
    exact ⟨_, rfl, _, rfl, a, _, rfl, T.ox, T.no, Or.inl ⟨ha, fun d hd hn => k d hd hn⟩⟩
theorem scIResting : FnScope ["self", "left"] ["self", "left"] (defScope sIResting) := ⟨rfl, rfl, rfl, by decide +kernel, rfl, by decide +kernel, by decide +kernel⟩
theorem ok_IResting {fI : Addr} {fd : FuncData} (F : FunD K "__init__" "Resting.__init__" (defArgs sIResting) (defBody sIResting) (defScope sIResting) [] [] fI fd) (T : CI K "Resting" "left" fI) : FnOk P w K mg base CX0 1 fI fd ["self", "left"] (spI "left" (He.ga K "Resting")) := by
  refine F.ok scIResting (fun vs H Q E h => ?_) (fun cdv A outer s H vs Q E hr h => ⟨_, PSs.nox (pss_one (ps_ost (pv 0) (pv 1) rfl)), ?_⟩)
  · obtain ⟨a, v, rfl, _⟩ := h
    rfl
  · obtain ⟨a, v, rfl, ha, k⟩ := h
    exact ⟨_, rfl, _, rfl, a, _, rfl, T.ox, T.no, Or.inl ⟨ha, fun d hd hn => k d hd hn⟩⟩
end
section
variable {P : Program} {w : World} {K : PySem.W.Frag} {mg : Str → Option Value} {base : Heap}
theorem scKinds : FnScope ["_law_e", "_law_found"] ["_law_e"] (defScope sKinds) := ⟨rfl, rfl, rfl, by decide +kernel, rfl, by decide +kernel, by decide +kernel⟩
theorem ok_kinds {f : Addr} {fd : FuncData} (D : DnP K mg "_law_kinds" sKinds ["_law_e"] f fd) (B : Bu mg) (C : Cl K mg) : FnOk P w K mg base CX0 1 f fd ["_law_e"] (spKinds K) := by
  refine D.F.ok scKinds (fun vs H Q E h => ?_) (fun cdv A outer s H vs Q E hr h => ?_)
  · obtain ⟨a, x, rfl, _⟩ := h
    rfl
  · obtain ⟨a, x, rfl, hx, he, k⟩ := h
    refine ⟨_, PSs.nox (pss_cons (ps_set (i := 1) scKinds.nd rfl (Or.inl rfl) (pe_lst (t := kTA K (["BadNet", "BadWeb", "Barred"] : List Str)) (pa_cons (pe_callB call_isErr (by rfl) B.isi boot_isinstance (pa_cons (pv 0) (pa_cons (pe_glob (by rfl) (C.g "BadNet" (by decide +kernel)) rfl) pa_nil))) (pa_cons (pe_callB call_isErr (by rfl) B.isi boot_isinstance (pa_cons (pv 0) (pa_cons (pe_glob (by rfl) (C.g "BadWeb" (by decide +kernel)) rfl) pa_nil))) (pa_cons (pe_callB call_isErr (by rfl) B.isi boot_isinstance (pa_cons (pv 0) (pa_cons (pe_glob (by rfl) (C.g "Barred" (by decide +kernel)) rfl) pa_nil))) pa_nil)))))
      (pss_cons (ps_set (i := 1) scKinds.nd rfl (Or.inl rfl) (pe_op op_cat (pv 1) (pe_lst (t := kTA K (["Crossed", "Crowded", "NoFrame"] : List Str)) (pa_cons (pe_callB call_isErr (by rfl) B.isi boot_isinstance (pa_cons (pv 0) (pa_cons (pe_glob (by rfl) (C.g "Crossed" (by decide +kernel)) rfl) pa_nil))) (pa_cons (pe_callB call_isErr (by rfl) B.isi boot_isinstance (pa_cons (pv 0) (pa_cons (pe_glob (by rfl) (C.g "Crowded" (by decide +kernel)) rfl) pa_nil))) (pa_cons (pe_callB call_isErr (by rfl) B.isi boot_isinstance (pa_cons (pv 0) (pa_cons (pe_glob (by rfl) (C.g "NoFrame" (by decide +kernel)) rfl) pa_nil))) pa_nil))))))
      (pss_cons (ps_set (i := 1) scKinds.nd rfl (Or.inl rfl) (pe_op op_cat (pv 1) (pe_lst (t := kTA K (["NoFrames", "NoGrown", "NoHeard"] : List Str)) (pa_cons (pe_callB call_isErr (by rfl) B.isi boot_isinstance (pa_cons (pv 0) (pa_cons (pe_glob (by rfl) (C.g "NoFrames" (by decide +kernel)) rfl) pa_nil))) (pa_cons (pe_callB call_isErr (by rfl) B.isi boot_isinstance (pa_cons (pv 0) (pa_cons (pe_glob (by rfl) (C.g "NoGrown" (by decide +kernel)) rfl) pa_nil))) (pa_cons (pe_callB call_isErr (by rfl) B.isi boot_isinstance (pa_cons (pv 0) (pa_cons (pe_glob (by rfl) (C.g "NoHeard" (by decide +kernel)) rfl) pa_nil))) pa_nil))))))
      (pss_cons (ps_set (i := 1) scKinds.nd rfl (Or.inl rfl) (pe_op op_cat (pv 1) (pe_lst (t := kTA K (["NoLine", "NoLines", "NoLink"] : List Str)) (pa_cons (pe_callB call_isErr (by rfl) B.isi boot_isinstance (pa_cons (pv 0) (pa_cons (pe_glob (by rfl) (C.g "NoLine" (by decide +kernel)) rfl) pa_nil))) (pa_cons (pe_callB call_isErr (by rfl) B.isi boot_isinstance (pa_cons (pv 0) (pa_cons (pe_glob (by rfl) (C.g "NoLines" (by decide +kernel)) rfl) pa_nil))) (pa_cons (pe_callB call_isErr (by rfl) B.isi boot_isinstance (pa_cons (pv 0) (pa_cons (pe_glob (by rfl) (C.g "NoLink" (by decide +kernel)) rfl) pa_nil))) pa_nil))))))
      (pss_cons (ps_set (i := 1) scKinds.nd rfl (Or.inl rfl) (pe_op op_cat (pv 1) (pe_lst (t := kTA K (["NoLosses", "NoLot", "NoNet"] : List Str)) (pa_cons (pe_callB call_isErr (by rfl) B.isi boot_isinstance (pa_cons (pv 0) (pa_cons (pe_glob (by rfl) (C.g "NoLosses" (by decide +kernel)) rfl) pa_nil))) (pa_cons (pe_callB call_isErr (by rfl) B.isi boot_isinstance (pa_cons (pv 0) (pa_cons (pe_glob (by rfl) (C.g "NoLot" (by decide +kernel)) rfl) pa_nil))) (pa_cons (pe_callB call_isErr (by rfl) B.isi boot_isinstance (pa_cons (pv 0) (pa_cons (pe_glob (by rfl) (C.g "NoNet" (by decide +kernel)) rfl) pa_nil))) pa_nil))))))
      (pss_cons (ps_set (i := 1) scKinds.nd rfl (Or.inl rfl) (pe_op op_cat (pv 1) (pe_lst (t := kTA K (["NoNumber", "NoPacking", "NoPair"] : List Str)) (pa_cons (pe_callB call_isErr (by rfl) B.isi boot_isinstance (pa_cons (pv 0) (pa_cons (pe_glob (by rfl) (C.g "NoNumber" (by decide +kernel)) rfl) pa_nil))) (pa_cons (pe_callB call_isErr (by rfl) B.isi boot_isinstance (pa_cons (pv 0) (pa_cons (pe_glob (by rfl) (C.g "NoPacking" (by decide +kernel)) rfl) pa_nil))) (pa_cons (pe_callB call_isErr (by rfl) B.isi boot_isinstance (pa_cons (pv 0) (pa_cons (pe_glob (by rfl) (C.g "NoPair" (by decide +kernel)) rfl) pa_nil))) pa_nil))))))
      (pss_cons (ps_set (i := 1) scKinds.nd rfl (Or.inl rfl) (pe_op op_cat (pv 1) (pe_lst (t := kTA K (["NoParting", "NoParts", "NoPlace"] : List Str)) (pa_cons (pe_callB call_isErr (by rfl) B.isi boot_isinstance (pa_cons (pv 0) (pa_cons (pe_glob (by rfl) (C.g "NoParting" (by decide +kernel)) rfl) pa_nil))) (pa_cons (pe_callB call_isErr (by rfl) B.isi boot_isinstance (pa_cons (pv 0) (pa_cons (pe_glob (by rfl) (C.g "NoParts" (by decide +kernel)) rfl) pa_nil))) (pa_cons (pe_callB call_isErr (by rfl) B.isi boot_isinstance (pa_cons (pv 0) (pa_cons (pe_glob (by rfl) (C.g "NoPlace" (by decide +kernel)) rfl) pa_nil))) pa_nil))))))
      (pss_cons (ps_set (i := 1) scKinds.nd rfl (Or.inl rfl) (pe_op op_cat (pv 1) (pe_lst (t := kTA K (["NoPlan", "NoPrices", "NoPrime"] : List Str)) (pa_cons (pe_callB call_isErr (by rfl) B.isi boot_isinstance (pa_cons (pv 0) (pa_cons (pe_glob (by rfl) (C.g "NoPlan" (by decide +kernel)) rfl) pa_nil))) (pa_cons (pe_callB call_isErr (by rfl) B.isi boot_isinstance (pa_cons (pv 0) (pa_cons (pe_glob (by rfl) (C.g "NoPrices" (by decide +kernel)) rfl) pa_nil))) (pa_cons (pe_callB call_isErr (by rfl) B.isi boot_isinstance (pa_cons (pv 0) (pa_cons (pe_glob (by rfl) (C.g "NoPrime" (by decide +kernel)) rfl) pa_nil))) pa_nil))))))
      (pss_cons (ps_set (i := 1) scKinds.nd rfl (Or.inl rfl) (pe_op op_cat (pv 1) (pe_lst (t := kTA K (["NoRoots", "NoSide", "NoSpanners"] : List Str)) (pa_cons (pe_callB call_isErr (by rfl) B.isi boot_isinstance (pa_cons (pv 0) (pa_cons (pe_glob (by rfl) (C.g "NoRoots" (by decide +kernel)) rfl) pa_nil))) (pa_cons (pe_callB call_isErr (by rfl) B.isi boot_isinstance (pa_cons (pv 0) (pa_cons (pe_glob (by rfl) (C.g "NoSide" (by decide +kernel)) rfl) pa_nil))) (pa_cons (pe_callB call_isErr (by rfl) B.isi boot_isinstance (pa_cons (pv 0) (pa_cons (pe_glob (by rfl) (C.g "NoSpanners" (by decide +kernel)) rfl) pa_nil))) pa_nil))))))
      (pss_cons (ps_set (i := 1) scKinds.nd rfl (Or.inl rfl) (pe_op op_cat (pv 1) (pe_lst (t := kTA K (["NoTie", "NoTree", "NoWeb", "NoWidths"] : List Str)) (pa_cons (pe_callB call_isErr (by rfl) B.isi boot_isinstance (pa_cons (pv 0) (pa_cons (pe_glob (by rfl) (C.g "NoTie" (by decide +kernel)) rfl) pa_nil))) (pa_cons (pe_callB call_isErr (by rfl) B.isi boot_isinstance (pa_cons (pv 0) (pa_cons (pe_glob (by rfl) (C.g "NoTree" (by decide +kernel)) rfl) pa_nil))) (pa_cons (pe_callB call_isErr (by rfl) B.isi boot_isinstance (pa_cons (pv 0) (pa_cons (pe_glob (by rfl) (C.g "NoWeb" (by decide +kernel)) rfl) pa_nil))) (pa_cons (pe_callB call_isErr (by rfl) B.isi boot_isinstance (pa_cons (pv 0) (pa_cons (pe_glob (by rfl) (C.g "NoWidths" (by decide +kernel)) rfl) pa_nil))) pa_nil)))))))
      (pss_cons (ps_set (i := 1) scKinds.nd rfl (Or.inl rfl) (pe_op op_cat (pv 1) (pe_lst (t := kTA K (["NotParted", "Resting", "TooMany"] : List Str)) (pa_cons (pe_callB call_isErr (by rfl) B.isi boot_isinstance (pa_cons (pv 0) (pa_cons (pe_glob (by rfl) (C.g "NotParted" (by decide +kernel)) rfl) pa_nil))) (pa_cons (pe_callB call_isErr (by rfl) B.isi boot_isinstance (pa_cons (pv 0) (pa_cons (pe_glob (by rfl) (C.g "Resting" (by decide +kernel)) rfl) pa_nil))) (pa_cons (pe_callB call_isErr (by rfl) B.isi boot_isinstance (pa_cons (pv 0) (pa_cons (pe_glob (by rfl) (C.g "TooMany" (by decide +kernel)) rfl) pa_nil))) pa_nil))))))
      (pss_one (ps_ret (pe_op op_cat (pv 1) (pe_lst (t := kTA K (["Unlike"] : List Str)) (pa_cons (pe_callB call_isErr (by rfl) B.isi boot_isinstance (pa_cons (pv 0) (pa_cons (pe_glob (by rfl) (C.g "Unlike" (by decide +kernel)) rfl) pa_nil))) pa_nil)))))))))))))))), ?_⟩
    refine kStart C hx he (zs := (["BadNet", "BadWeb", "Barred"] : List Str)) (by decide) fun p0 H0 s0 h0 => ?_
    refine kStep C hx (he.keep s0) s0 h0 (ys := (["Crossed", "Crowded", "NoFrame"] : List Str)) (by decide) fun p1 H1 s1 h1 => ?_
    refine kStep C hx (he.keep s1) s1 h1 (ys := (["NoFrames", "NoGrown", "NoHeard"] : List Str)) (by decide) fun p2 H2 s2 h2 => ?_
    refine kStep C hx (he.keep s2) s2 h2 (ys := (["NoLine", "NoLines", "NoLink"] : List Str)) (by decide) fun p3 H3 s3 h3 => ?_
    refine kStep C hx (he.keep s3) s3 h3 (ys := (["NoLosses", "NoLot", "NoNet"] : List Str)) (by decide) fun p4 H4 s4 h4 => ?_
    refine kStep C hx (he.keep s4) s4 h4 (ys := (["NoNumber", "NoPacking", "NoPair"] : List Str)) (by decide) fun p5 H5 s5 h5 => ?_
    refine kStep C hx (he.keep s5) s5 h5 (ys := (["NoParting", "NoParts", "NoPlace"] : List Str)) (by decide) fun p6 H6 s6 h6 => ?_
    refine kStep C hx (he.keep s6) s6 h6 (ys := (["NoPlan", "NoPrices", "NoPrime"] : List Str)) (by decide) fun p7 H7 s7 h7 => ?_
    refine kStep C hx (he.keep s7) s7 h7 (ys := (["NoRoots", "NoSide", "NoSpanners"] : List Str)) (by decide) fun p8 H8 s8 h8 => ?_
    refine kStep C hx (he.keep s8) s8 h8 (ys := (["NoTie", "NoTree", "NoWeb", "NoWidths"] : List Str)) (by decide) fun p9 H9 s9 h9 => ?_
    refine kStep C hx (he.keep s9) s9 h9 (ys := (["NotParted", "Resting", "TooMany"] : List Str)) (by decide) fun p10 H10 s10 h10 => ?_
    refine kLast C hx (he.keep s10) s10 h10 (ys := (["Unlike"] : List Str)) (by decide) fun p2 H2 n2 s2 h2 => k p2 H2 n2 s2 h2
theorem scPlain : FnScope ["_law_found"] [] (defScope sPlain) := ⟨rfl, rfl, rfl, by decide +kernel, rfl, by decide +kernel, by decide +kernel⟩
theorem ok_plain {f : Addr} {fd : FuncData} (D : DnP K mg "_law_plain" sPlain [] f fd) (B : Bu mg) (C : Cl K mg) : FnOk P w K mg base CX0 1 f fd [] (spPlain K) := by
  refine D.F.ok scPlain (fun vs H Q E h => ?_) (fun cdv A outer s H vs Q E hr h => ?_)
  · obtain ⟨rfl, _⟩ := h
    rfl
  · obtain ⟨rfl, k⟩ := h
    refine ⟨_, PSs.nox (pss_cons (ps_set (i := 0) scPlain.nd rfl (Or.inl rfl) (pe_lst (t := nTA K (["NoNet", "NoLot", "NoSide", "NoNumber", "NoPlace", "NoGrown", "NoTree", "NoRoots"] : List Str)) (pa_cons (pe_exc0 PySem.F.excBase_ValueError (C.x "NoNet" (by decide +kernel)) (C.g "NoNet" (by decide +kernel)) (C.k "NoNet" (by decide +kernel)) (by rfl)) (pa_cons (pe_exc0 PySem.F.excBase_ValueError (C.x "NoLot" (by decide +kernel)) (C.g "NoLot" (by decide +kernel)) (C.k "NoLot" (by decide +kernel)) (by rfl)) (pa_cons (pe_exc0 PySem.F.excBase_ValueError (C.x "NoSide" (by decide +kernel)) (C.g "NoSide" (by decide +kernel)) (C.k "NoSide" (by decide +kernel)) (by rfl)) (pa_cons (pe_exc0 PySem.F.excBase_ValueError (C.x "NoNumber" (by decide +kernel)) (C.g "NoNumber" (by decide +kernel)) (C.k "NoNumber" (by decide +kernel)) (by rfl)) (pa_cons (pe_exc0 PySem.F.excBase_ValueError (C.x "NoPlace" (by decide +kernel)) (C.g "NoPlace" (by decide +kernel)) (C.k "NoPlace" (by decide +kernel)) (by rfl)) (pa_cons (pe_exc0 PySem.F.excBase_ValueError (C.x "NoGrown" (by decide +kernel)) (C.g "NoGrown" (by decide +kernel)) (C.k "NoGrown" (by decide +kernel)) (by rfl)) (pa_cons (pe_exc0 PySem.F.excBase_ValueError (C.x "NoTree" (by decide +kernel)) (C.g "NoTree" (by decide +kernel)) (C.k "NoTree" (by decide +kernel)) (by rfl)) (pa_cons (pe_exc0 PySem.F.excBase_ValueError (C.x "NoRoots" (by decide +kernel)) (C.g "NoRoots" (by decide +kernel)) (C.k "NoRoots" (by decide +kernel)) (by rfl)) pa_nil))))))))))
      (pss_cons (ps_set (i := 0) scPlain.nd rfl (Or.inl rfl) (pe_op op_cat (pv 0) (pe_lst (t := nTA K (["NoParts", "NoWidths", "NoWeb", "NoParting", "NoSpanners", "NotParted", "NoTie"] : List Str)) (pa_cons (pe_exc0 PySem.F.excBase_ValueError (C.x "NoParts" (by decide +kernel)) (C.g "NoParts" (by decide +kernel)) (C.k "NoParts" (by decide +kernel)) (by rfl)) (pa_cons (pe_exc0 PySem.F.excBase_ValueError (C.x "NoWidths" (by decide +kernel)) (C.g "NoWidths" (by decide +kernel)) (C.k "NoWidths" (by decide +kernel)) (by rfl)) (pa_cons (pe_exc0 PySem.F.excBase_ValueError (C.x "NoWeb" (by decide +kernel)) (C.g "NoWeb" (by decide +kernel)) (C.k "NoWeb" (by decide +kernel)) (by rfl)) (pa_cons (pe_exc0 PySem.F.excBase_ValueError (C.x "NoParting" (by decide +kernel)) (C.g "NoParting" (by decide +kernel)) (C.k "NoParting" (by decide +kernel)) (by rfl)) (pa_cons (pe_exc0 PySem.F.excBase_ValueError (C.x "NoSpanners" (by decide +kernel)) (C.g "NoSpanners" (by decide +kernel)) (C.k "NoSpanners" (by decide +kernel)) (by rfl)) (pa_cons (pe_exc0 PySem.F.excBase_ValueError (C.x "NotParted" (by decide +kernel)) (C.g "NotParted" (by decide +kernel)) (C.k "NotParted" (by decide +kernel)) (by rfl)) (pa_cons (pe_exc0 PySem.F.excBase_ValueError (C.x "NoTie" (by decide +kernel)) (C.g "NoTie" (by decide +kernel)) (C.k "NoTie" (by decide +kernel)) (by rfl)) pa_nil))))))))))
      (pss_cons (ps_set (i := 0) scPlain.nd rfl (Or.inl rfl) (pe_op op_cat (pv 0) (pe_lst (t := nTA K (["NoPrices", "NoPrime", "NoFrame", "NoHeard", "NoPacking", "NoPlan", "NoLosses", "NoFrames"] : List Str)) (pa_cons (pe_exc0 PySem.F.excBase_ValueError (C.x "NoPrices" (by decide +kernel)) (C.g "NoPrices" (by decide +kernel)) (C.k "NoPrices" (by decide +kernel)) (by rfl)) (pa_cons (pe_exc0 PySem.F.excBase_ValueError (C.x "NoPrime" (by decide +kernel)) (C.g "NoPrime" (by decide +kernel)) (C.k "NoPrime" (by decide +kernel)) (by rfl)) (pa_cons (pe_exc0 PySem.F.excBase_ValueError (C.x "NoFrame" (by decide +kernel)) (C.g "NoFrame" (by decide +kernel)) (C.k "NoFrame" (by decide +kernel)) (by rfl)) (pa_cons (pe_exc0 PySem.F.excBase_ValueError (C.x "NoHeard" (by decide +kernel)) (C.g "NoHeard" (by decide +kernel)) (C.k "NoHeard" (by decide +kernel)) (by rfl)) (pa_cons (pe_exc0 PySem.F.excBase_ValueError (C.x "NoPacking" (by decide +kernel)) (C.g "NoPacking" (by decide +kernel)) (C.k "NoPacking" (by decide +kernel)) (by rfl)) (pa_cons (pe_exc0 PySem.F.excBase_ValueError (C.x "NoPlan" (by decide +kernel)) (C.g "NoPlan" (by decide +kernel)) (C.k "NoPlan" (by decide +kernel)) (by rfl)) (pa_cons (pe_exc0 PySem.F.excBase_ValueError (C.x "NoLosses" (by decide +kernel)) (C.g "NoLosses" (by decide +kernel)) (C.k "NoLosses" (by decide +kernel)) (by rfl)) (pa_cons (pe_exc0 PySem.F.excBase_ValueError (C.x "NoFrames" (by decide +kernel)) (C.g "NoFrames" (by decide +kernel)) (C.k "NoFrames" (by decide +kernel)) (by rfl)) pa_nil)))))))))))
      (pss_one (ps_ret (pe_op op_cat (pv 0) (pe_lst (t := nTA K (["Unlike", "NoLink", "NoPair", "NoLine", "NoLines"] : List Str)) (pa_cons (pe_exc0 PySem.F.excBase_ValueError (C.x "Unlike" (by decide +kernel)) (C.g "Unlike" (by decide +kernel)) (C.k "Unlike" (by decide +kernel)) (by rfl)) (pa_cons (pe_exc0 PySem.F.excBase_ValueError (C.x "NoLink" (by decide +kernel)) (C.g "NoLink" (by decide +kernel)) (C.k "NoLink" (by decide +kernel)) (by rfl)) (pa_cons (pe_exc0 PySem.F.excBase_ValueError (C.x "NoPair" (by decide +kernel)) (C.g "NoPair" (by decide +kernel)) (C.k "NoPair" (by decide +kernel)) (by rfl)) (pa_cons (pe_exc0 PySem.F.excBase_ValueError (C.x "NoLine" (by decide +kernel)) (C.g "NoLine" (by decide +kernel)) (C.k "NoLine" (by decide +kernel)) (by rfl)) (pa_cons (pe_exc0 PySem.F.excBase_ValueError (C.x "NoLines" (by decide +kernel)) (C.g "NoLines" (by decide +kernel)) (C.k "NoLines" (by decide +kernel)) (by rfl)) pa_nil)))))))))))), ?_⟩
    refine nStart (zs := (["NoNet", "NoLot", "NoSide", "NoNumber", "NoPlace", "NoGrown", "NoTree", "NoRoots"] : List Str)) (by decide) fun p0 as0 H0 s0 h0 e0 => ?_
    refine nStep s0 h0 e0 (ys := (["NoParts", "NoWidths", "NoWeb", "NoParting", "NoSpanners", "NotParted", "NoTie"] : List Str)) (by decide) fun p1 as1 H1 s1 h1 e1 => ?_
    refine nStep s1 h1 e1 (ys := (["NoPrices", "NoPrime", "NoFrame", "NoHeard", "NoPacking", "NoPlan", "NoLosses", "NoFrames"] : List Str)) (by decide) fun p2 as2 H2 s2 h2 e2 => ?_
    refine nLast s2 h2 e2 (ys := (["Unlike", "NoLink", "NoPair", "NoLine", "NoLines"] : List Str)) (by decide) fun p2 as2 H2 n2 s2 h2 e2 => k p2 as2 H2 n2 s2 h2 e2
theorem scWf : FnScope ["_law_which", "_law_thing"] ["_law_which", "_law_thing"] (defScope sWf) := ⟨rfl, rfl, rfl, by decide +kernel, rfl, by decide +kernel, by decide +kernel⟩
theorem ok_wf {f fBadNet fBarred fTooMany fBadWeb fCrossed fCrowded fResting : Addr} {fd fdBadNet fdBarred fdTooMany fdBadWeb fdCrossed fdCrowded fdResting : FuncData} (D : DnP K mg "_law_with_field" sWf ["_law_which", "_law_thing"] f fd) (B : Bu mg) (C : Cl K mg)
    (FBadNet : FunD K "__init__" "BadNet.__init__" (defArgs sIBadNet) (defBody sIBadNet) (defScope sIBadNet) [] [] fBadNet fdBadNet) (TBadNet : CI K "BadNet" "part" fBadNet) (bBadNet : Binds K fdBadNet ["self", "part"] [])
    (FBarred : FunD K "__init__" "Barred.__init__" (defArgs sIBarred) (defBody sIBarred) (defScope sIBarred) [] [] fBarred fdBarred) (TBarred : CI K "Barred" "side" fBarred) (bBarred : Binds K fdBarred ["self", "side"] [])
    (FTooMany : FunD K "__init__" "TooMany.__init__" (defArgs sITooMany) (defBody sITooMany) (defScope sITooMany) [] [] fTooMany fdTooMany) (TTooMany : CI K "TooMany" "most" fTooMany) (bTooMany : Binds K fdTooMany ["self", "most"] [])
    (FBadWeb : FunD K "__init__" "BadWeb.__init__" (defArgs sIBadWeb) (defBody sIBadWeb) (defScope sIBadWeb) [] [] fBadWeb fdBadWeb) (TBadWeb : CI K "BadWeb" "part" fBadWeb) (bBadWeb : Binds K fdBadWeb ["self", "part"] [])
    (FCrossed : FunD K "__init__" "Crossed.__init__" (defArgs sICrossed) (defBody sICrossed) (defScope sICrossed) [] [] fCrossed fdCrossed) (TCrossed : CI K "Crossed" "parting" fCrossed) (bCrossed : Binds K fdCrossed ["self", "parting"] [])
    (FCrowded : FunD K "__init__" "Crowded.__init__" (defArgs sICrowded) (defBody sICrowded) (defScope sICrowded) [] [] fCrowded fdCrowded) (TCrowded : CI K "Crowded" "lot" fCrowded) (bCrowded : Binds K fdCrowded ["self", "lot"] [])
    (FResting : FunD K "__init__" "Resting.__init__" (defArgs sIResting) (defBody sIResting) (defScope sIResting) [] [] fResting fdResting) (TResting : CI K "Resting" "left" fResting) (bResting : Binds K fdResting ["self", "left"] []) : FnOk P w K mg base CX0 3 f fd ["_law_which", "_law_thing"] (spWf K) := by
  refine D.F.ok scWf (fun vs H Q E h => ?_) (fun cdv A outer s H vs Q E hr h => ?_)
  · obtain ⟨j, v, rfl, _⟩ := h
    rfl
  · obtain ⟨j, v, rfl, hj, k⟩ := h
    have hr1 : Room 2 _ := hr
    refine ⟨_, PSs.nox (pss_cons (ps_if (pt_cmpR op_eq (pv 0) pe_int (nomark _)) (pss_one (ps_ret (pe_tup (pa_cons (pe_errF (pe_excI TBadNet.ox TBadNet.ini TBadNet.fn (ok_IBadNet FBadNet TBadNet) hr bBadNet (by rfl) (C.g "BadNet" (by decide +kernel)) (pa_cons (pv 1) pa_nil))) (pa_cons (pe_excI TBadNet.ox TBadNet.ini TBadNet.fn (ok_IBadNet FBadNet TBadNet) hr bBadNet (by rfl) (C.g "BadNet" (by decide +kernel)) (pa_cons (pv 1) pa_nil)) pa_nil))))) pss_nil)
      (pss_cons (ps_if (pt_cmpR op_eq (pv 0) pe_int (nomark _)) (pss_one (ps_ret (pe_tup (pa_cons (pe_errF (pe_excI TBarred.ox TBarred.ini TBarred.fn (ok_IBarred FBarred TBarred) hr bBarred (by rfl) (C.g "Barred" (by decide +kernel)) (pa_cons (pv 1) pa_nil))) (pa_cons (pe_excI TBarred.ox TBarred.ini TBarred.fn (ok_IBarred FBarred TBarred) hr bBarred (by rfl) (C.g "Barred" (by decide +kernel)) (pa_cons (pv 1) pa_nil)) pa_nil))))) pss_nil)
      (pss_cons (ps_if (pt_cmpR op_eq (pv 0) pe_int (nomark _)) (pss_one (ps_ret (pe_tup (pa_cons (pe_errF (pe_excI TTooMany.ox TTooMany.ini TTooMany.fn (ok_ITooMany FTooMany TTooMany) hr bTooMany (by rfl) (C.g "TooMany" (by decide +kernel)) (pa_cons (pv 1) pa_nil))) (pa_cons (pe_excI TTooMany.ox TTooMany.ini TTooMany.fn (ok_ITooMany FTooMany TTooMany) hr bTooMany (by rfl) (C.g "TooMany" (by decide +kernel)) (pa_cons (pv 1) pa_nil)) pa_nil))))) pss_nil)
      (pss_cons (ps_if (pt_cmpR op_eq (pv 0) pe_int (nomark _)) (pss_one (ps_ret (pe_tup (pa_cons (pe_errF (pe_excI TBadWeb.ox TBadWeb.ini TBadWeb.fn (ok_IBadWeb FBadWeb TBadWeb) hr bBadWeb (by rfl) (C.g "BadWeb" (by decide +kernel)) (pa_cons (pv 1) pa_nil))) (pa_cons (pe_excI TBadWeb.ox TBadWeb.ini TBadWeb.fn (ok_IBadWeb FBadWeb TBadWeb) hr bBadWeb (by rfl) (C.g "BadWeb" (by decide +kernel)) (pa_cons (pv 1) pa_nil)) pa_nil))))) pss_nil)
      (pss_cons (ps_if (pt_cmpR op_eq (pv 0) pe_int (nomark _)) (pss_one (ps_ret (pe_tup (pa_cons (pe_errF (pe_excI TCrossed.ox TCrossed.ini TCrossed.fn (ok_ICrossed FCrossed TCrossed) hr bCrossed (by rfl) (C.g "Crossed" (by decide +kernel)) (pa_cons (pv 1) pa_nil))) (pa_cons (pe_excI TCrossed.ox TCrossed.ini TCrossed.fn (ok_ICrossed FCrossed TCrossed) hr bCrossed (by rfl) (C.g "Crossed" (by decide +kernel)) (pa_cons (pv 1) pa_nil)) pa_nil))))) pss_nil)
      (pss_cons (ps_if (pt_cmpR op_eq (pv 0) pe_int (nomark _)) (pss_one (ps_ret (pe_tup (pa_cons (pe_errF (pe_excI TCrowded.ox TCrowded.ini TCrowded.fn (ok_ICrowded FCrowded TCrowded) hr bCrowded (by rfl) (C.g "Crowded" (by decide +kernel)) (pa_cons (pv 1) pa_nil))) (pa_cons (pe_excI TCrowded.ox TCrowded.ini TCrowded.fn (ok_ICrowded FCrowded TCrowded) hr bCrowded (by rfl) (C.g "Crowded" (by decide +kernel)) (pa_cons (pv 1) pa_nil)) pa_nil))))) pss_nil)
      (pss_one (ps_ret (pe_tup (pa_cons (pe_errF (pe_excI TResting.ox TResting.ini TResting.fn (ok_IResting FResting TResting) hr bResting (by rfl) (C.g "Resting" (by decide +kernel)) (pa_cons (pv 1) pa_nil))) (pa_cons (pe_excI TResting.ox TResting.ini TResting.fn (ok_IResting FResting TResting) hr bResting (by rfl) (C.g "Resting" (by decide +kernel)) (pa_cons (pv 1) pa_nil)) pa_nil))))))))))), ?_⟩
    refine ⟨_, rfl, rfl, _, rfl, ite2 (fun e => wfRet TBadNet (fun p x H2 np s2 hp hx => k p x H2 np s2 hp ?_)) (fun n0 => ?_)⟩
    · rw [show j = 0 from by have e2 := V.int.inj (of_decide_eq_true e); omega]
      exact hx
    refine ⟨_, rfl, rfl, _, rfl, ite2 (fun e => wfRet TBarred (fun p x H2 np s2 hp hx => k p x H2 np s2 hp ?_)) (fun n1 => ?_)⟩
    · rw [show j = 1 from by have e2 := V.int.inj (of_decide_eq_true e); omega]
      exact hx
    refine ⟨_, rfl, rfl, _, rfl, ite2 (fun e => wfRet TTooMany (fun p x H2 np s2 hp hx => k p x H2 np s2 hp ?_)) (fun n2 => ?_)⟩
    · rw [show j = 2 from by have e2 := V.int.inj (of_decide_eq_true e); omega]
      exact hx
    refine ⟨_, rfl, rfl, _, rfl, ite2 (fun e => wfRet TBadWeb (fun p x H2 np s2 hp hx => k p x H2 np s2 hp ?_)) (fun n3 => ?_)⟩
    · rw [show j = 3 from by have e2 := V.int.inj (of_decide_eq_true e); omega]
      exact hx
    refine ⟨_, rfl, rfl, _, rfl, ite2 (fun e => wfRet TCrossed (fun p x H2 np s2 hp hx => k p x H2 np s2 hp ?_)) (fun n4 => ?_)⟩
    · rw [show j = 4 from by have e2 := V.int.inj (of_decide_eq_true e); omega]
      exact hx
    refine ⟨_, rfl, rfl, _, rfl, ite2 (fun e => wfRet TCrowded (fun p x H2 np s2 hp hx => k p x H2 np s2 hp ?_)) (fun n5 => ?_)⟩
    · rw [show j = 5 from by have e2 := V.int.inj (of_decide_eq_true e); omega]
      exact hx
    refine wfRet TResting (fun p x H2 np s2 hp hx => k p x H2 np s2 hp ?_)
    have f : ∀ z : Int, ¬ decide (V.int (j : Int) = V.int z) = true → (j : Int) ≠ z := fun z q e => q (decide_eq_true (congrArg V.int e))
    have f0 := f _ n0
    have f1 := f _ n1
    have f2 := f _ n2
    have f3 := f _ n3
    have f4 := f _ n4
    have f5 := f _ n5
    rw [show j = 6 from by omega]
    exact hx
end
end K00
namespace K00
open PySem PySem.Spec PyProof.Rows L2 Kv
section
variable {K : PySem.W.Frag} {H H2 : Hp}
theorem sameTup {a : Addr} {xs : List V} (e : Same H H2) (h : SqT K H a xs) : SqT K H2 a xs := by
  rcases h with (h | ⟨o, h⟩) | h
  · exact Or.inl (Or.inl (e _ _ h))
  · exact Or.inl (Or.inr ⟨o, e _ _ h⟩)
  · exact Or.inr h
mutual
theorem dpKeep (e : Same H H2) : ∀ (d : PyData) (v : V), Dp K H v d → Dp K H2 v d
  | .none, _, h => by cases h; exact .non
  | .bool b, _, h => by cases h; exact .bl b
  | .int i, _, h => by cases h; exact .int i
  | .str x, _, h => by cases h; exact .str x
  | .list ds, _, h => by
    cases h with
    | lst hs ha => exact .lst (e.seq hs) (dpKeepAll e ds _ ha)
  | .tuple ds, _, h => by
    cases h with
    | tup hs ha => exact .tup (sameTup e hs) (dpKeepAll e ds _ ha)
  | .dict _, _, h => by cases h
theorem dpKeepAll (e : Same H H2) : ∀ (ds : List PyData) (vs : List V), DpAll K H vs ds → DpAll K H2 vs ds
  | [], _, h => by cases h; exact .nil
  | d :: ds, _, h => by
    cases h with
    | cons h1 h2 => exact .cons (dpKeep e d _ h1) (dpKeepAll e ds _ h2)
end
/-- data that is shown well: no dict, not deep, short -/
structure Fine (n : Nat) (d : PyData) : Prop where
  nd : d.hasDict = false
  sh : d.showable = true
  dp : d.depth ≤ n
  wt : d.weight ≤ n + 70
  lv : d.leavesShort 13 = true
theorem Fine.mono {n m : Nat} {d : PyData} (h : Fine n d) (l : n ≤ m) : Fine m d := ⟨h.nd, h.sh, Nat.le_trans h.dp l, by have := h.wt; omega, h.lv⟩
theorem Fine.tup {n : Nat} {d : PyData} (h : Fine n d) : Fine (n + 1) (.tuple [d]) := by
  refine ⟨?_, ?_, ?_, ?_, ?_⟩
  · simp only [PyData.hasDict, PyData.hasDictAll, h.nd, Bool.or_false]
  · simp only [PyData.showable, PyData.showableAll, h.sh, Bool.and_true]
  · have := h.dp
    simp only [PyData.depth, PyData.depthAll]
    omega
  · have := h.wt
    simp only [PyData.weight, PyData.weightAll]
    omega
  · simp only [PyData.leavesShort, PyData.leavesShortAll, h.lv, Bool.and_true]
theorem Fine.lst {n : Nat} {d : PyData} (h : Fine n d) : Fine (n + 1) (.list [d]) := by
  refine ⟨?_, ?_, ?_, ?_, ?_⟩
  · simp only [PyData.hasDict, PyData.hasDictAll, h.nd, Bool.or_false]
  · simp only [PyData.showable, PyData.showableAll, h.sh, Bool.and_true]
  · have := h.dp
    simp only [PyData.depth, PyData.depthAll]
    omega
  · have := h.wt
    simp only [PyData.weight, PyData.weightAll]
    omega
  · simp only [PyData.leavesShort, PyData.leavesShortAll, h.lv, Bool.and_true]
theorem Fine.shows {n : Nat} {d : PyData} {v : V} (h : Fine n d) (hn : n ≤ 60) (hd : Dp K H v d) : Shows K H v d.shown :=
  Or.inl ⟨d, hd, h.nd, h.sh, Nat.le_trans h.dp hn, PyData.shown_fits (B := 13) (by decide) (by decide) h.lv (by have := h.wt; omega), rfl⟩
theorem showsKeep {x : V} {z : Str} (e : Same H H2) (h : Shows K H x z) : Shows K H2 x z := by
  rcases h with ⟨d, hd, r⟩ | ⟨a, ex, ha, ez⟩
  · exact Or.inl ⟨d, dpKeep e d x hd, r⟩
  · exact Or.inr ⟨a, ex, e _ _ ha, ez⟩
end
/-- deep(hand): data some thirty deep -/
def spDeep (K : PySem.W.Frag) : Sp := fun vs H Q _ => ∃ a : Addr, vs = [.ref a] ∧ Hand H a ∧ ∀ v H2 d, Same H H2 → Dp K H2 v d → Fine 40 d → Q v H2
section
variable {P : Program} {w : World} {K : PySem.W.Frag} {mg : Str → Option Value} {base : Heap}
theorem scDeep : FnScope ["_law_hand_here", "_law_thing", "_law_turn"] ["_law_hand_here"] (defScope sDeep) := ⟨rfl, rfl, rfl, by decide +kernel, rfl, by decide +kernel, by decide +kernel⟩
theorem ok_deep {f fA fD : Addr} {fd fdA fdD : FuncData} (D : DnP K mg "_law_deep" sDeep ["_law_hand_here"] f fd) (DA : DnP K mg "_law_any" sAny ["_law_hand_here", "_law_some"] fA fdA) (DD : DnP K mg "_law_draw" sDraw ["_law_hand_here", "_law_many"] fD fdD) (B : Bu mg) : FnOk P w K mg base CX0 3 f fd ["_law_hand_here"] (spDeep K) := by
  have GD : FnOk P w K mg base CX0 1 fD fdD ["_law_hand_here", "_law_many"] spDraw := ok_draw DD B.toBt
  have GA : FnOk P w K mg base CX0 2 fA fdA ["_law_hand_here", "_law_some"] (spAny K) := ok_any DA DD B.toBt
  refine D.F.ok scDeep (fun vs H Q E h => ?_) (fun cdv A outer s H vs Q E hr h => ?_)
  · obtain ⟨a, rfl, _⟩ := h
    rfl
  · obtain ⟨a, rfl, hH, k⟩ := h
    have hr1 : Room 1 _ := hr.mono (by decide)
    refine ⟨_, PSs.nox (pss_cons (ps_set (i := 1) scDeep.nd rfl (Or.inl rfl) (pe_call GA hr (by rfl) DA.g DA.F.kp DA.b .nil pass0 (pa_cons (pv 0) (pa_cons (pe_lst (pa_cons pe_int (pa_cons (pe_tup pa_nil) (pa_cons pe_str pa_nil)))) pa_nil))))
      (pss_cons (ps_for PassesOwn.never rfl (pi_range1 (by rfl) B.rng (pa_cons (pe_op op_add pe_int (pe_call GD hr1 (by rfl) DD.g DD.F.kp DD.b .nil pass0 (pa_cons (pv 0) (pa_cons pe_int pa_nil)))) pa_nil)) (pg_name (i := 2) scDeep.nd rfl (Or.inl rfl))
        (pss_one (ps_set (i := 1) scDeep.nd rfl (Or.inl rfl) (pe_ifExp (pt_cmpR op_gt (pe_call GD hr1 (by rfl) DD.g DD.F.kp DD.b .nil pass0 (pa_cons (pv 0) (pa_cons pe_int pa_nil))) pe_int (nomark _)) (pe_tup (pa_cons (pv 1) pa_nil)) (pe_lst (pa_cons (pv 1) pa_nil))))))
      (pss_one (ps_ret (pv 1))))), ?_⟩
    refine ⟨_, rfl, (by show 0 ≤ sizeLine; decide), fun p np => ⟨(by show 3 ≤ sizeLine; decide), fun q nq => ?_⟩⟩
    have s1 : Same H (upd (upd H p (.tup [])) q (.lst [.int 0, .ref p, .str "a"])) := samePast (sameNew np) nq
    have hp : upd (upd H p (.tup [])) q (.lst [.int 0, .ref p, .str "a"]) p = some (.tup []) := by
      rw [upd_ne (fun z => by rw [← z, upd_same] at nq; cases nq), upd_same]
    refine ⟨a, q, _, rfl, hH.keep s1, SqL.of upd_same, (by show 0 < 3; decide), (by show 3 < 1073741824; decide), fun r x hx => ?_⟩
    have first : ∃ d, Dp K (upd (upd H p (.tup [])) q (.lst [.int 0, .ref p, .str "a"])) x d ∧ Fine 1 d := by
      match r, hx with
      | 0, hx => cases hx; exact ⟨.int 0, .int 0, by decide +kernel, by decide +kernel, by decide +kernel, by decide +kernel, by decide +kernel⟩
      | 1, hx => cases hx; exact ⟨.tuple [], .tup (SqT.of hp) .nil, by decide +kernel, by decide +kernel, by decide +kernel, by decide +kernel, by decide +kernel⟩
      | 2, hx => cases hx; exact ⟨.str "a", .str "a", by decide +kernel, by decide +kernel, by decide +kernel, by decide +kernel, by decide +kernel⟩
      | r + 3, hx => simp at hx
    obtain ⟨d0, hd0, f0⟩ := first
    -- the range's draw
    refine ⟨_, rfl, a, 12, rfl, by decide, by decide, hH.keep s1, fun m hm => ⟨18, _, rfl, rfl, ?_⟩⟩
    refine ⟨18 + (m : Int), rfl, by omega, by omega, for_range (lo := 0) (n := (18 + (m : Int)).toNat) (fun i σ2 H2 => ∃ (x : V) (z : Option V) (d : PyData), σ2 = [some (.ref a), some x, z] ∧ Same H H2 ∧ Dp K H2 x d ∧ Fine (1 + i) d) ⟨x, none, d0, rfl, s1, hd0, f0⟩ ?_ ?_⟩
    · rintro i σ2 H2 hi ⟨x, z, d, rfl, s2, hd, hf⟩
      refine ⟨_, rfl, a, 3, rfl, by decide, by decide, hH.keep s2, fun r hr => ⟨_, 0, rfl, rfl, _, rfl, ?_⟩⟩
      refine ite2 (fun _ => ⟨_, rfl, (by show 1 ≤ sizeLine; decide), fun p np => ?_⟩) (fun _ => ⟨_, rfl, (by show 1 ≤ sizeLine; decide), fun p np => ?_⟩)
      · exact ⟨.ref p, _, _, rfl, samePast s2 np, .tup (SqT.of upd_same) (.cons (dpKeep (sameNew np) d x hd) .nil), (Nat.add_assoc 1 i 1 ▸ hf.tup)⟩
      · exact ⟨.ref p, _, _, rfl, samePast s2 np, .lst (SqL.of upd_same) (.cons (dpKeep (sameNew np) d x hd) .nil), (Nat.add_assoc 1 i 1 ▸ hf.lst)⟩
    · rintro σ2 H2 ⟨x, z, d, rfl, s2, hd, hf⟩
      exact ⟨_, rfl, k x H2 d s2 hd (hf.mono (by omega))⟩
end
end K00
namespace K00
open PySem PySem.Spec PyProof.Rows L2 Kv
/-- the errors in the order in which the law makes them -/
def ord : List Str := names7 ++ names28
def at35 (x : Str) : Nat := names35.findIdx fun y => decide (x = y)
theorem ord_in : ∀ x ∈ ord, x ∈ names35 := by decide +kernel
theorem ord_len : ord.length = 35 := by decide +kernel
theorem cnt1 : ∀ x ∈ ord, ((names35.map fun y => V.bl (decide (x = y))).countP fun z => eqV z (.bl true)) = 1 := by decide +kernel
theorem at_ok : ∀ x ∈ ord, (names35.map fun y => V.bl (decide (x = y)))[at35 x]? = some (.bl true) := by decide +kernel
theorem at_first : ∀ x ∈ ord, ((List.range (at35 x)).all fun m => (names35.map fun y => V.bl (decide (x = y)))[m]? == some (.bl false)) = true := by decide +kernel
theorem at_nodup : (ord.map fun x => (at35 x : Int)).Nodup := by decide +kernel
theorem flat35 (x : Str) : (names35.map fun y => V.bl (decide (x = y))).all flatV = true := by
  rw [List.all_eq_true]
  intro v hv
  obtain ⟨y, _, rfl⟩ := List.mem_map.mp hv
  rfl
section
variable {K : PySem.W.Frag} {mg : Str → Option Value}
/-- kinds(e).count(True) -/
theorem rd_cnt {te : TE} {x : Str} (hx : x ∈ ord) {a : Addr} {σ : L2.St} {H : Hp} {Q : VK} (ha : ∀ R : List V → Hp → Prop, R [.ref a] H → tCons te tNil σ H R) (hC : Cl K mg) (he : IsErr H a (He.ga K x)) (k : ∀ H2, Same H H2 → Q (.int 1) H2) :
    tBM K "list" (rCntF K) (tCall (spKinds K) [] E0 (tCons te tNil)) (tCons (tC (.bl true)) tNil) σ H Q := by
  refine ha (fun vs H1 => spKinds K (vs ++ []) H1 (fun y H2 => tyV K "list" y H2 ∧ tCons (tC (.bl true)) tNil σ H2 fun xs H3 => rCntF K y xs H3 Q) E0) ⟨a, x, rfl, ord_in x hx, he, fun p H2 np s2 hp => ⟨Or.inl ⟨rfl, _, SqL.of hp⟩, p, _, .bl true, rfl, rfl, SqL.of hp, rfl, flat35 x, ?_⟩⟩
  rw [cnt1 x hx]
  exact k H2 s2
theorem rd_ix {te : TE} {x : Str} (hx : x ∈ ord) {a : Addr} {σ : L2.St} {H : Hp} {Q : VK} (ha : ∀ R : List V → Hp → Prop, R [.ref a] H → tCons te tNil σ H R) (hC : Cl K mg) (he : IsErr H a (He.ga K x)) (k : ∀ H2, Same H H2 → Q (.int (at35 x : Int)) H2) :
    tBM K "list" (rIndex K) (tCall (spKinds K) [] E0 (tCons te tNil)) (tCons (tC (.bl true)) tNil) σ H Q := by
  refine ha (fun vs H1 => spKinds K (vs ++ []) H1 (fun y H2 => tyV K "list" y H2 ∧ tCons (tC (.bl true)) tNil σ H2 fun xs H3 => rIndex K y xs H3 Q) E0) ⟨a, x, rfl, ord_in x hx, he, fun p H2 np s2 hp => ⟨Or.inl ⟨rfl, _, SqL.of hp⟩, p, _, .bl true, at35 x, .bl true, rfl, rfl, SqL.of hp, rfl, flat35 x, at_ok x hx, rfl, fun m z hm hz => ?_, k H2 s2⟩⟩
  have h1 := List.all_eq_true.mp (at_first x hx) m (List.mem_range.mpr hm)
  rw [hz] at h1
  have h2 : z = .bl false := Option.some.inj (beq_iff_eq.mp h1)
  rw [h2]
  rfl
end
theorem errPut {H : Hp} {r a C : Addr} {xs ys : List V} (hr : H r = some (.lst xs)) (h : IsErr H a C) : IsErr (upd H r (.lst ys)) a C := by
  have nx : ∀ {o : HO} {b : Addr}, H b = some o → (∀ zs, o ≠ .lst zs) → b ≠ r := fun {o b} e n z => by
    rw [z, hr] at e
    exact n xs (Option.some.inj e).symm
  have ext : ∀ (φ : Heap → Prop) zs, HO.ext φ ≠ .lst zs := fun φ zs z => by cases z
  rcases h with h | ⟨d, fs, h1, h2⟩
  · exact Or.inl (by rw [upd_ne (nx h (ext _))]; exact h)
  · exact Or.inr ⟨d, fs, by rw [upd_ne (nx h1 (ext _))]; exact h1, by rw [upd_ne (nx h2 (ext _))]; exact h2⟩
theorem errsPut {K : PySem.W.Frag} {H : Hp} {r : Addr} {xs ys : List V} {as : List Addr} {zs : List Str} (hr : H r = some (.lst xs)) (h : Errs K H as zs) : Errs K (upd H r (.lst ys)) as zs := ⟨h.1, fun i a y e1 e2 => errPut hr (h.2 i a y e1 e2)⟩
theorem takeSucc {α : Type} : ∀ (l : List α) {i : Nat} {y : α}, l[i]? = some y → l.take (i + 1) = l.take i ++ [y]
  | [], i, y, h => by simp at h
  | a :: l, 0, y, h => by
    have e : a = y := Option.some.inj h
    rw [e]
    rfl
  | a :: l, i + 1, y, h => congrArg (a :: ·) (takeSucc l (i := i) (y := y) h)
theorem take_getD (l : List Str) {i : Nat} (h : i < l.length) : l.take (i + 1) = l.take i ++ [l.getD i ""] := takeSucc l (by rw [List.getD_eq_getElem?_getD, List.getElem?_eq_getElem h] <;> rfl)
def spLaw (K : PySem.W.Frag) : Sp := fun vs H Q _ => ∃ (a : Addr) (ns : List Int), vs = [.ref a] ∧ SqL K H a (ns.map V.int) ∧ ns.length ≤ 63 ∧ ∀ H2, Q (.bl true) H2
section
variable {P : Program} {w : World} {K : PySem.W.Frag} {mg : Str → Option Value} {base : Heap}
theorem scLaw : FnScope ["_law_script", "_law_hand_here", "_law_things", "_law_errors", "_law_which", "_law_thing", "_law_told", "_law_error"] ["_law_script"] (defScope sLaw) := ⟨rfl, rfl, rfl, by decide +kernel, rfl, by decide +kernel, by decide +kernel⟩
theorem ok_law {f fH fA fDp fW fP fK : Addr} {fd fdH fdA fdDp fdW fdP fdK : FuncData} (D : FnP K "law" sLaw f fd) (DH : DnP K mg "_law_hand" sHand ["_law_script"] fH fdH) (DA : DnP K mg "_law_any" sAny ["_law_hand_here", "_law_some"] fA fdA)
    (DDp : DnP K mg "_law_deep" sDeep ["_law_hand_here"] fDp fdDp) (DW : DnP K mg "_law_with_field" sWf ["_law_which", "_law_thing"] fW fdW) (DP : DnP K mg "_law_plain" sPlain [] fP fdP) (DK : DnP K mg "_law_kinds" sKinds ["_law_e"] fK fdK) (B : Bu mg) (C : Cl K mg)
    (GH : FnOk P w K mg base CX0 1 fH fdH ["_law_script"] (spHand K)) (GA : FnOk P w K mg base CX0 2 fA fdA ["_law_hand_here", "_law_some"] (spAny K)) (GDp : FnOk P w K mg base CX0 3 fDp fdDp ["_law_hand_here"] (spDeep K))
    (GW : FnOk P w K mg base CX0 3 fW fdW ["_law_which", "_law_thing"] (spWf K)) (GP : FnOk P w K mg base CX0 1 fP fdP [] (spPlain K)) (GK : FnOk P w K mg base CX0 1 fK fdK ["_law_e"] (spKinds K)) : FnG P w K mg base 4 f fd ["_law_script"] (spLaw K) := by
  refine okG D scLaw (fun vs H Q E h => ?_) (fun cdv A outer s H vs Q E hg hr h => ?_)
  · obtain ⟨a, ns, rfl, _⟩ := h
    rfl
  · obtain ⟨a, ns, rfl, hS, hlen, k⟩ := h
    have hr1 : Room 1 _ := hr.mono (by decide)
    have hr2 : Room 2 _ := hr.mono (by decide)
    have hrep := call_reprD (X := cxG P w K mg base ["_law_script", "_law_hand_here", "_law_things", "_law_errors", "_law_which", "_law_thing", "_law_told", "_law_error"] "law" (defScope sLaw) f cdv A outer s H E) hg (by have := hr.un; show (A.deeper _).units + 100 < cLine; omega)
    refine ⟨_, (pss_cons (ps_set (i := 1) scLaw.nd rfl (Or.inl rfl) (pe_call GH hr1 (by rfl) DH.g DH.F.kp DH.b .nil pass0 (pa_cons (pv 0) pa_nil)))
      (pss_cons (ps_par (i := 2) (j := 3) (by rfl) scLaw.nd rfl rfl (by decide) rfl rfl (pa_cons (pe_lst (pa_cons pe_non (pa_cons pe_int (pa_cons pe_bl (pa_cons pe_str (pa_cons (pe_tup pa_nil) (pa_cons (pe_tup (pa_cons pe_str (pa_cons pe_int pa_nil))) (pa_cons (pe_lst (pa_cons pe_int pa_nil)) (pa_cons pe_dnewK (pa_cons (pe_un un_neg pe_int) (pa_cons (pe_op op_pow pe_int pe_int)
          (pa_cons (pe_call GDp hr (by rfl) DDp.g DDp.F.kp DDp.b .nil pass0 (pa_cons (pv 1) pa_nil)) pa_nil)))))))))))) (pa_cons (pe_lst pa_nil) pa_nil)) (by rfl))
      (pss_cons (ps_for PassesOwn.never rfl (pi_range1 (by rfl) B.rng (pa_cons pe_int pa_nil)) (pg_name (i := 4) scLaw.nd rfl (Or.inl rfl))
        (pss_cons (ps_set (i := 5) scLaw.nd rfl (Or.inl rfl) (pe_call GA hr2 (by rfl) DA.g DA.F.kp DA.b .nil pass0 (pa_cons (pv 1) (pa_cons (pv 2) pa_nil))))
        (pss_cons (ps_asg (pe_call GW hr (by rfl) DW.g DW.F.kp DW.b .nil pass0 (pa_cons (pv 4) (pa_cons (pv 5) pa_nil))) (pg_tup (by rfl) (pgs_cons (pg_name (i := 6) scLaw.nd rfl (Or.inl rfl)) (pgs_cons (pg_name (i := 7) scLaw.nd rfl (Or.inl rfl)) pgs_nil))))
        (pss_cons (ps_if (pt_cmpR op_ne (pe_callB hrep (by rfl) B.rep boot_repr (pa_cons (pv 6) pa_nil)) (pe_callB hrep (by rfl) B.rep boot_repr (pa_cons (pv 5) pa_nil)) (nomark _)) (pss_one (ps_ret pe_bl)) pss_nil)
        (pss_one (ps_expr (pe_bm PySem.F.plainAttrs_list PySem.F.slot_list_append PySem.F.type_list_append mt_append (pv 3) (pa_cons (pv 7) pa_nil))))))))
      (pss_cons (ps_set (i := 3) scLaw.nd rfl (Or.inl rfl) (pe_op op_cat (pv 3) (pe_call0 GP hr1 (by rfl) DP.g DP.F.kp DP.b .nil pass0)))
      (pss_cons (ps_for PassesOwn.never rfl (pi_list (pv 3)) (pg_name (i := 7) scLaw.nd rfl (Or.inl rfl))
        (pss_cons (ps_if (PW.pt (pw_or (pt_not (pt_val (pe_callB call_isErr (by rfl) B.isi boot_isinstance (pa_cons (pv 7) (pa_cons (pe_glob (v := .ref (He.ga K "TreeError")) (by rfl) C.gT rfl) pa_nil)))))
            (pw_or1 (pt_not (pt_val (pe_callB call_isErr (by rfl) B.isi boot_isinstance (pa_cons (pv 7) (pa_cons (pe_bltn (v := .ty "ValueError") (by rfl) B.ve (by decide +kernel) rfl) pa_nil)))))))) (pss_one (ps_ret pe_bl)) pss_nil)
        (pss_one (ps_if (pt_cmpR op_ne (pe_bm PySem.F.plainAttrs_list PySem.F.slot_list_count PySem.F.type_list_count mt_countF (pe_call GK hr1 (by rfl) DK.g DK.F.kp DK.b .nil pass0 (pa_cons (pv 7) pa_nil)) (pa_cons pe_bl pa_nil)) pe_int (nomark _)) (pss_one (ps_ret pe_bl)) pss_nil))))
      (pss_one (ps_ret (pe_cmpR op_eq (RZ.pe_lenSetI (by rfl) B.len (by rfl) B.set (pe_lc (own := [("_law_error", 7)]) (g := gName 7) (tt := tYes) (te := tBM K "list" (rIndex K) (tCall (spKinds K) [] E0 (tCons (tVar 7) tNil)) (tCons (tC (.bl true)) tNil)) rfl scLaw.nd (pi_list (pv 3))
          (blkOk_by (N := ["_law_script", "_law_hand_here", "_law_things", "_law_errors", "_law_which", "_law_thing", "_law_told", "_law_error"]) (sc := defScope sLaw) (by decide +kernel)) (fun _ _ _ _ _ => pg_name (i := 7) scLaw.nd rfl (Or.inl rfl)) (fun _ _ _ _ _ => pts_nil)
          (fun _ _ _ _ _ => pe_bm PySem.F.plainAttrs_list PySem.F.slot_list_index PySem.F.type_list_index mt_index (pe_call GK hr1 (by rfl) DK.g DK.F.kp DK.b .nil pass0 (pa_cons (pv 7) pa_nil)) (pa_cons pe_bl pa_nil)))) pe_int (nomark _))))))))), ?_⟩
    refine ⟨_, rfl, a, ns, rfl, hS, hlen, fun p H1 np s1 hH => ?_⟩
    -- the things
    refine ⟨(by show 0 ≤ sizeLine; decide), fun t1 nt1 => ⟨(by show 2 ≤ sizeLine; decide), fun t2 nt2 => ⟨(by show 1 ≤ sizeLine; decide), fun l1 nl1 => fun d1 nd1 => ⟨7, rfl, 10, 19, rfl, rfl, ⟨by decide, by decide, by decide⟩, _, rfl, ?_⟩⟩⟩⟩
    have g1 := sameNew (o := HO.tup []) nt1
    have g2 := samePast (o := HO.tup [.str "x", .int 3]) g1 nt2
    have g3 := samePast (o := HO.lst [.int 1]) g2 nl1
    have g4 := samePast (o := HO.dK []) g3 nd1
    have s12 := sameNew (o := HO.tup [.str "x", .int 3]) nt2
    have s23 := sameNew (o := HO.lst [.int 1]) nl1
    have s34 := sameNew (o := HO.dK []) nd1
    refine ⟨p, rfl, hH.keep g4, fun v H2 dv s2 hdv hfv => ⟨(by show 11 ≤ sizeLine; decide), fun q nq => ⟨(by show 0 ≤ sizeLine; decide), fun r nr => ?_⟩⟩⟩
    have sq := sameNew (o := HO.lst [V.non, .int 0, .bl true, .str "a", .ref t1, .ref t2, .ref l1, .ref d1, .int (-7), .int (10 ^ (19 : Int).toNat), v]) nq
    have toG := s2.trans sq
    obtain ⟨G, hG⟩ : ∃ G, G = upd H2 q (HO.lst [V.non, .int 0, .bl true, .str "a", .ref t1, .ref t2, .ref l1, .ref d1, .int (-7), .int (10 ^ (19 : Int).toNat), v]) := ⟨_, rfl⟩
    have shows : ∀ (j : Nat) x, [V.non, .int 0, .bl true, .str "a", .ref t1, .ref t2, .ref l1, .ref d1, .int (-7), .int (10 ^ (19 : Int).toNat), v][j]? = some x → ∃ z, Shows K G x z := by
      intro j x hx
      rw [hG]
      have lit : ∀ (d : PyData), Fine 1 d → Dp K (upd H2 q (HO.lst [V.non, .int 0, .bl true, .str "a", .ref t1, .ref t2, .ref l1, .ref d1, .int (-7), .int (10 ^ (19 : Int).toNat), v])) x d → ∃ z, Shows K (upd H2 q (HO.lst [V.non, .int 0, .bl true, .str "a", .ref t1, .ref t2, .ref l1, .ref d1, .int (-7), .int (10 ^ (19 : Int).toNat), v])) x z := fun d hf hd => ⟨_, hf.shows (by decide) hd⟩
      match j, hx with
      | 0, hx => cases hx; exact lit .none ⟨by decide +kernel, by decide +kernel, by decide +kernel, by decide +kernel, by decide +kernel⟩ .non
      | 1, hx => cases hx; exact lit (.int 0) ⟨by decide +kernel, by decide +kernel, by decide +kernel, by decide +kernel, by decide +kernel⟩ (.int 0)
      | 2, hx => cases hx; exact lit (.bool true) ⟨by decide +kernel, by decide +kernel, by decide +kernel, by decide +kernel, by decide +kernel⟩ (.bl true)
      | 3, hx => cases hx; exact lit (.str "a") ⟨by decide +kernel, by decide +kernel, by decide +kernel, by decide +kernel, by decide +kernel⟩ (.str "a")
      | 4, hx => cases hx; exact lit (.tuple []) ⟨by decide +kernel, by decide +kernel, by decide +kernel, by decide +kernel, by decide +kernel⟩ (.tup (SqT.of ((((s12.trans s23).trans s34).trans toG) _ _ upd_same)) .nil)
      | 5, hx => cases hx; exact lit (.tuple [.str "x", .int 3]) ⟨by decide +kernel, by decide +kernel, by decide +kernel, by decide +kernel, by decide +kernel⟩ (.tup (SqT.of (((s23.trans s34).trans toG) _ _ upd_same)) (.cons (.str "x") (.cons (.int 3) .nil)))
      | 6, hx => cases hx; exact lit (.list [.int 1]) ⟨by decide +kernel, by decide +kernel, by decide +kernel, by decide +kernel, by decide +kernel⟩ (.lst (SqL.of ((s34.trans toG) _ _ upd_same)) (.cons (.int 1) .nil))
      | 7, hx => cases hx; exact ⟨_, Or.inr ⟨d1, rfl, toG _ _ upd_same, rfl⟩⟩
      | 8, hx => cases hx; exact lit (.int (-7)) ⟨by decide +kernel, by decide +kernel, by decide +kernel, by decide +kernel, by decide +kernel⟩ (.int (-7))
      | 9, hx => cases hx; exact ⟨_, Or.inl ⟨.int (10 ^ (19 : Int).toNat), .int _, by decide +kernel, by decide +kernel, by decide +kernel, by decide +kernel, rfl⟩⟩
      | 10, hx => cases hx; exact ⟨_, hfv.shows (by decide) (dpKeep sq dv _ hdv)⟩
      | j + 11, hx => simp at hx
    have hHG : Hand G p := by
      rw [hG]
      exact (hH.keep g4).keep toG
    have hqG : G q = some (.lst [V.non, .int 0, .bl true, .str "a", .ref t1, .ref t2, .ref l1, .ref d1, .int (-7), .int (10 ^ (19 : Int).toNat), v]) := by
      rw [hG]
      exact upd_same
    have nrG : G r = none := by
      rw [hG]
      exact nr
    rw [← hG]
    -- the seven errors with a field
    refine ⟨_, _, rfl, 7, rfl, by decide, by decide, for_range (lo := 0) (n := 7) (fun i σ2 H3 => ∃ (v4 v5 v6 v7 : Option V) (as : List Addr), σ2 = [some (.ref a), some (.ref p), some (.ref q), some (.ref r), v4, v5, v6, v7] ∧ Same G H3 ∧ H3 r = some (.lst (as.map V.ref)) ∧ Errs K H3 as (names7.take i))
      ⟨none, none, none, none, [], rfl, sameNew nrG, upd_same, Errs.nil⟩ ?_ ?_⟩
    · rintro i σ2 H3 hi ⟨v4, v5, v6, v7, as, rfl, s3, hr3, he3⟩
      have e0 : (0 : Int) + (i : Int) = (i : Int) := Int.zero_add _
      rw [e0]
      refine ⟨_, rfl, _, rfl, p, q, _, rfl, hHG.keep s3, SqL.of (s3 _ _ hqG), (by show 0 < 11; decide), (by show 11 < 1073741824; decide), fun j x hx => ?_⟩
      obtain ⟨z, hz⟩ := shows j x hx
      refine ⟨_, rfl, _, rfl, i, x, rfl, hi, fun p2 e H4 np2 s4 hp2 hee => ⟨p2, _, rfl, SqT.of hp2, rfl, _, _, rfl, _, _, rfl, rfl, ?_⟩⟩
      have hz4 := showsKeep (s3.trans s4) hz
      refine ⟨_, rfl, x, z, rfl, hz4, _, rfl, x, z, rfl, hz4, rfl, _, rfl, iteNS rfl ?_⟩
      have hr4 := s4 _ _ hr3
      have hlen7 : as.length < 8 := by
        rw [he3.1, List.length_take]
        have : names7.length = 7 := by decide +kernel
        omega
      refine ⟨_, rfl, Or.inl ⟨rfl, _, SqL.of hr4⟩, _, rfl, r, _, _, rfl, rfl, hr4, (by rw [List.length_map]; exact Nat.lt_trans hlen7 (by decide)), ?_⟩
      refine ⟨_, _, _, _, as ++ [e], rfl, samePut (s3.trans s4) nrG, by rw [upd_same, List.map_append]; rfl, ?_⟩
      have he4 : Errs K (upd H4 r (.lst (as.map V.ref ++ [.ref e]))) as (names7.take i) := errsPut hr4 (he3.keep s4)
      have hee4 := errPut (ys := as.map V.ref ++ [.ref e]) hr4 hee
      have l7 : names7.length = 7 := by decide +kernel
      have e7 : names7.take (i + 1) = names7.take i ++ [names7.getD i ""] := take_getD names7 (by omega)
      rw [e7]
      exact Errs.append (Errs.cons hee4 Errs.nil) he4
    · rintro σ2 H3 ⟨v4, v5, v6, v7, as, rfl, s3, hr3, he3⟩
      -- the plain ones
      refine ⟨_, rfl, rfl, fun p2 bs H4 np2 s4 hp2 he4 => ⟨r, p2, _, _, rfl, rfl, s4 _ _ hr3, hp2, ?_, fun c nc => ?_⟩⟩
      · rw [List.length_map, List.length_map, he3.1, he4.1]
        decide +kernel
      have sc := sameNew (o := HO.lst (as.map V.ref ++ bs.map V.ref)) nc
      have hc : upd H4 c (.lst (as.map V.ref ++ bs.map V.ref)) c = some (.lst ((as ++ bs).map V.ref)) := by rw [upd_same, List.map_append]
      have hall : Errs K (upd H4 c (.lst (as.map V.ref ++ bs.map V.ref))) (as ++ bs) ord := Errs.append (he4.keep sc) (he3.keep (s4.trans sc))
      obtain ⟨M, hM⟩ : ∃ M, M = upd H4 c (.lst (as.map V.ref ++ bs.map V.ref)) := ⟨_, rfl⟩
      obtain ⟨es, hes⟩ : ∃ es, es = as ++ bs := ⟨_, rfl⟩
      rw [← hM] at hc hall ⊢
      rw [← hes] at hc hall
      have item : ∀ {i : Nat} {x : V}, (es.map V.ref)[i]? = some x → ∃ (e : Addr) (y : Str), x = .ref e ∧ ord[i]? = some y ∧ y ∈ ord ∧ IsErr M e (He.ga K y) := fun {i x} hx => by
        rw [List.getElem?_map] at hx
        obtain ⟨e, he, ex⟩ := Option.map_eq_some_iff.mp hx
        have hl : i < ord.length := by
          rw [← hall.1]
          exact (List.getElem?_eq_some_iff.mp he).1
        exact ⟨e, ord[i], ex.symm, List.getElem?_eq_getElem hl, List.getElem_mem hl, hall.2 i e _ he (List.getElem?_eq_getElem hl)⟩
      refine ⟨_, rfl, c, rfl, ⟨_, SqL.of hc⟩, for_list (K := K) (a := c) (xs := es.map V.ref) (fun i σ2 H5 => ∃ (v4 v5 v6 v7 : Option V), σ2 = [some (.ref a), some (.ref p), some (.ref q), some (.ref c), v4, v5, v6, v7] ∧ Same M H5)
        ⟨_, _, _, _, rfl, Same.refl _⟩ (fun i σ2 H5 _ ⟨_, _, _, _, _, s5⟩ => SqL.of (s5 _ _ hc)) ?_ ?_⟩
      · rintro i x σ2 H5 hx ⟨v4, v5, v6, v7, rfl, s5⟩
        obtain ⟨e, y, rfl, _, hy, hee⟩ := item hx
        have he5 := hee.keep s5
        have hy35 := ord_in y hy
        refine ⟨_, rfl, e, _, .ref (He.ga K "TreeError"), _, true, rfl, fun u ru => ru, he5, C.eB y hy35, C.kT y hy35, true, rfl, iteF ?_⟩
        refine ⟨_, rfl, e, _, .ty "ValueError", _, true, rfl, fun u ru => ru, he5, C.eB y hy35, C.kV y hy35, true, rfl, iteF ?_⟩
        show tBM K "list" (rCntF K) (tCall (spKinds K) [] E0 (tCons (tVar 7) tNil)) (tCons (tC (.bl true)) tNil) [some (.ref a), some (.ref p), some (.ref q), some (.ref c), v4, v5, v6, some (.ref e)] H5 _
        refine rd_cnt hy (a := e) (fun R z => ⟨_, rfl, z⟩) C he5 (fun H6 s6 => ⟨rfl, _, rfl, iteNS rfl ?_⟩)
        exact ⟨_, _, _, _, rfl, s5.trans s6⟩
      · rintro σ2 H5 ⟨v4, v5, v6, v7, rfl, s5⟩
        refine ⟨_, rfl, c, rfl, ⟨_, SqL.of (s5 _ _ hc)⟩, fun Dd nD => lc_list (K := K) (a := c) (xs := es.map V.ref) (fun i H6 => Same H5 H6 ∧ H6 Dd = some (.lst (((ord.map fun x => (at35 x : Int)).take i).map V.int)))
          ⟨sameNew nD, upd_same⟩ (fun i H6 _ h6 => SqL.of (h6.1 _ _ (s5 _ _ hc))) (fun i x H6 hx h6 => ?_) (fun H6 h6 => ?_)⟩
        · obtain ⟨s6, hD⟩ := h6
          obtain ⟨e, y, rfl, hoy, hy, hee⟩ := item hx
          refine ⟨rfl, ?_⟩
          refine rd_ix hy (a := e) (fun R z => ⟨_, rfl, z⟩) C (hee.keep (s5.trans s6)) (fun H7 s7 => ?_)
          refine ⟨_, s7 _ _ hD, ?_, samePut (s6.trans s7) nD, ?_⟩
          · rw [List.length_map, List.length_take]
            exact Nat.lt_of_le_of_lt (Nat.min_le_right _ _) (by rw [List.length_map, ord_len]; decide)
          · rw [upd_same, takeSucc (ord.map fun x => (at35 x : Int)) (i := i) (y := (at35 y : Int)) (by rw [List.getElem?_map, hoy]; rfl), List.map_append]
            rfl
        · obtain ⟨s6, hD⟩ := h6
          have hl : (es.map V.ref).length = (ord.map fun x => (at35 x : Int)).length := by rw [List.length_map, List.length_map, hall.1]
          rw [hl, List.take_length] at hD
          refine ⟨Dd, _, rfl, SqL.of hD, at_nodup, (by rw [List.length_map, ord_len]; decide), rfl, ?_⟩
          rw [List.length_map, ord_len]
          exact k _
end
end K00
namespace K00
open PySem PySem.Spec PyProof.Rows L2 Kv
/-- a class over ValueError with an __init__ of its own, by its object -/
def oexB (K : PySem.W.Frag) (C : Addr) : Bool := (match K.lookup C with
  | some ⟨.type "type", _, .cls cd, sl⟩ => (match cd.mro, sl.toList with
    | .ref C2 :: bm, [_, _, _, _, some (.builtin n), _] => C2 == C && (n == "ValueError.__new__" && (cd.hasDict && (!cd.hasDel && PySem.HandSPX.refsVE bm)))
    | _, _ => false)
  | _ => false) && (decide (PySem.W.findIn K (.ref C) "__setattr__" = some (some (.builtin "object.__setattr__"))) && (decide (PySem.W.subIn K (.ref C) (.type "BaseException") = some true) && (decide (PySem.W.typeIn K (.ref C) = some (.type "type")) && PySem.W.keepIn K (.ref C))))
theorem oexB_ok {K : PySem.W.Frag} {C : Addr} (h : oexB K C = true) : OexC K C := by
  unfold oexB at h
  obtain ⟨h1, h⟩ := Bool.and_eq_true_iff.mp h
  obtain ⟨h2, h⟩ := Bool.and_eq_true_iff.mp h
  obtain ⟨h3, h⟩ := Bool.and_eq_true_iff.mp h
  obtain ⟨h4, h5⟩ := Bool.and_eq_true_iff.mp h
  refine ⟨?_, of_decide_eq_true h2, of_decide_eq_true h3, of_decide_eq_true h4, h5⟩
  split at h1
  · rename_i dd cd sl ho
    split at h1
    · rename_i C2 bm k0 k1 k2 k3 n k5 hm hs
      simp only [Bool.and_eq_true, beq_iff_eq, Bool.not_eq_true'] at h1
      obtain ⟨e1, e2, e3, e4, e5⟩ := h1
      obtain ⟨nm, bs, mro, nsp, qn, hd, sn, sub, ab, col, del⟩ := cd
      obtain ⟨l⟩ := sl
      dsimp only at hm hs e3 e4
      subst hm hs e1 e2 e3 e4
      exact ⟨nm, qn, nsp, bs, bm, sn, sub, ab, col, dd, k0, k1, k2, k3, k5, ho, e5⟩
    · cases h1
  · cases h1
def ciB (K : PySem.W.Frag) (p : Str × Str) : Bool := oexB K (He.ga K p.1) && (xfB K (He.ga K p.1) && (He.eqO (PySem.W.findIn K (.ref (He.ga K p.1)) "__init__") (some (some (.ref (He.ma K (He.ga K p.1) "__init__")))) && (decide (PySem.W.typeIn K (.ref (He.ma K (He.ga K p.1) "__init__")) = some (.type "function")) && He.eqO (PySem.W.findIn K (.ref (He.ga K p.1)) p.2) (some none))))
theorem ciB_ok {K : PySem.W.Frag} {x f : Str} (h : ciB K (x, f) = true) : CI K x f (He.ma K (He.ga K x) "__init__") := by
  obtain ⟨h1, h⟩ := Bool.and_eq_true_iff.mp h
  obtain ⟨h2, h⟩ := Bool.and_eq_true_iff.mp h
  obtain ⟨h3, h⟩ := Bool.and_eq_true_iff.mp h
  obtain ⟨h4, h5⟩ := Bool.and_eq_true_iff.mp h
  exact ⟨oexB_ok h1, xfB_ok h2, He.eqO_ok h3, of_decide_eq_true h4, He.eqO_ok h5⟩
def kitB (K : PySem.W.Frag) : Bool := names35.all fun x => errB K (He.ga K x) && (names35.all fun y => decide (PySem.W.kitOne K (.ref (He.ga K x)) (.ref (He.ga K y)) = some (decide (x = y)))) &&
  (decide (PySem.W.kitOne K (.ref (He.ga K x)) (.ref (He.ga K "TreeError")) = some true) && decide (PySem.W.kitOne K (.ref (He.ga K x)) (.type "ValueError") = some true))
def ex (K : PySem.W.Frag) : Bool := kitB K && (flds7.all fun p => ciB K p)
def topD (x : Str) (i : Nat) : He.DefD := ⟨(x, none), x, x, defArgs (top i), defBody (top i), defScope (top i), [], []⟩
def iniD (x q : Str) (i : Nat) : He.DefD := ⟨(x, some "__init__"), "__init__", q, defArgs (inClass (top i) 0), defBody (inClass (top i) 0), defScope (inClass (top i) 0), [], []⟩
def fn : List He.DefD := [topD "_law_hand" 38, topD "_law_draw" 39, topD "_law_any" 40, topD "_law_deep" 41, topD "_law_with_field" 42, topD "_law_plain" 43, topD "_law_kinds" 44, topD "law" 45,
  iniD "BadNet" "BadNet.__init__" 30, iniD "BadWeb" "BadWeb.__init__" 31, iniD "Barred" "Barred.__init__" 32, iniD "TooMany" "TooMany.__init__" 33, iniD "Crossed" "Crossed.__init__" 34, iniD "Crowded" "Crowded.__init__" 35, iniD "Resting" "Resting.__init__" 36]
def fa0 : List He.Fa := [.glo "_law_hand", .glo "_law_draw", .glo "_law_any", .glo "_law_deep", .glo "_law_with_field", .glo "_law_plain", .glo "_law_kinds", .glo "law",
  .free "abs", .free "int", .free "len", .free "range", .free "repr", .free "isinstance", .free "set", .free "ValueError", .glo "TreeError"]
def fa : List He.Fa := fa0 ++ (names35.map He.Fa.glo ++ names28.map He.Fa.exc)
abbrev R : PySem.W.OpenRow := PySem.W.OpenLaw.row PySem.Challenge.rw_sparetrees_k00_errors_of_the_package
abbrev hk : PySem.W.Hook := He.hookX 4 fa fn [] [] ex
def ob (s : PySem.W.SharedT) : He.AlX := He.obsX 4 fa fn [] [] ex (HandSHeadRun.getT s)
theorem ob_eq (s : PySem.W.SharedT) : ob s = hk.obs s.abs := He.obsX_eq (HandSHeadRun.getT_eq s)
def others : List Str := (["TreeError", "_law_hand", "_law_draw", "_law_any", "_law_deep", "_law_with_field", "_law_plain", "_law_kinds"] : List Str) ++ names35
theorem run (w : World) : HandSHeadRun.RunEq R (PySem.W.view R.prog [45]) hk ob 20000 others w := by
  intro os
  kernel_rfl
end K00
namespace K00
open PySem PySem.Spec PyProof.Rows L2 Kv
theorem facts {P : Program} {w : World} {K : PySem.W.Frag} {h : Heap} {mg : Str → Option Value} {f : Addr} (X : K.In h) (G : h.Ns mainGlobals mg) (hfa : mg ("law" : Str) = some (.ref f)) (c : He.SaysX fa fn [] [] ex w h K) :
    ∃ fd : FuncData, (∀ (s : Shared) (v : Value), BindsTo s fd ⟨[v], []⟩ [("_law_script", v)]) ∧ ∀ base : Heap, K.In base → base.Ns mainGlobals mg → FnG P w K mg base 4 f fd ["_law_script"] (spLaw K) := by
  have d := c.t.d
  have glo : ∀ x : Str, He.Fa.glo x ∈ fa → mg x = some (.ref (He.ga K x)) := fun x m => He.glo_ok X G (d.facts m)
  have fre : ∀ x : Str, He.Fa.free x ∈ fa → mg x = none := fun x m => He.free_ok X G (d.facts m)
  have in0 : ∀ {z : He.Fa}, z ∈ fa0 → z ∈ fa := fun m => List.mem_append_left _ m
  have B : Bu mg := ⟨⟨fre "len" (in0 (by simp [fa0])), fre "int" (in0 (by simp [fa0])), fre "abs" (in0 (by simp [fa0]))⟩, fre "isinstance" (in0 (by simp [fa0])), fre "range" (in0 (by simp [fa0])), fre "repr" (in0 (by simp [fa0])), fre "set" (in0 (by simp [fa0])), fre "ValueError" (in0 (by simp [fa0]))⟩
  have exc : ∀ x ∈ names28, (He.Fa.exc x).ok K = true := fun x hx => d.facts (List.mem_append_right _ (List.mem_append_right _ (List.mem_map_of_mem hx)))
  obtain ⟨m1, m2⟩ := He.ba c.more
  have kits := fun x hx => List.all_eq_true.mp m1 x hx
  have C : Cl K mg := by
    refine ⟨fun x hx => glo x (List.mem_append_right _ (List.mem_append_left _ (List.mem_map_of_mem hx))), glo _ (in0 (by simp [fa0])), fun x hx => (He.exc_ok (exc x hx)).1, fun x hx => (He.exc_ok (exc x hx)).2.1, fun x hx => ?_, fun x hx y hy => ?_, fun x hx => ?_, fun x hx => ?_⟩
    · exact (He.ba (He.ba (kits x hx)).1).1
    · exact of_decide_eq_true (List.all_eq_true.mp (He.ba (He.ba (kits x hx)).1).2 y hy)
    · exact of_decide_eq_true (He.ba (He.ba (kits x hx)).2).1
    · exact of_decide_eq_true (He.ba (He.ba (kits x hx)).2).2
  have ci : ∀ x f, (x, f) ∈ flds7 → CI K x f (He.ma K (He.ga K x) "__init__") := fun x f hx => ciB_ok (List.all_eq_true.mp m2 (x, f) hx)
  obtain ⟨fd0, F0⟩ := d.def_ 0 (d := topD "_law_hand" 38) rfl
  have D0 : DnP K mg "_law_hand" (top 38) ["_law_script"] (He.ga K "_law_hand") fd0 := ⟨F0, glo _ (in0 (by simp [fa0])), FunD.bindsN (ps := ["_law_script"]) F0 fun _ _ _ _ _ _ us hl => match us, hl with | [_], _ => rfl⟩
  obtain ⟨fd1, F1⟩ := d.def_ 1 (d := topD "_law_draw" 39) rfl
  have D1 : DnP K mg "_law_draw" (top 39) ["_law_hand_here", "_law_many"] (He.ga K "_law_draw") fd1 := ⟨F1, glo _ (in0 (by simp [fa0])), FunD.bindsN (ps := ["_law_hand_here", "_law_many"]) F1 fun _ _ _ _ _ _ us hl => match us, hl with | [_, _], _ => rfl⟩
  obtain ⟨fd2, F2⟩ := d.def_ 2 (d := topD "_law_any" 40) rfl
  have D2 : DnP K mg "_law_any" (top 40) ["_law_hand_here", "_law_some"] (He.ga K "_law_any") fd2 := ⟨F2, glo _ (in0 (by simp [fa0])), FunD.bindsN (ps := ["_law_hand_here", "_law_some"]) F2 fun _ _ _ _ _ _ us hl => match us, hl with | [_, _], _ => rfl⟩
  obtain ⟨fd3, F3⟩ := d.def_ 3 (d := topD "_law_deep" 41) rfl
  have D3 : DnP K mg "_law_deep" (top 41) ["_law_hand_here"] (He.ga K "_law_deep") fd3 := ⟨F3, glo _ (in0 (by simp [fa0])), FunD.bindsN (ps := ["_law_hand_here"]) F3 fun _ _ _ _ _ _ us hl => match us, hl with | [_], _ => rfl⟩
  obtain ⟨fd4, F4⟩ := d.def_ 4 (d := topD "_law_with_field" 42) rfl
  have D4 : DnP K mg "_law_with_field" (top 42) ["_law_which", "_law_thing"] (He.ga K "_law_with_field") fd4 := ⟨F4, glo _ (in0 (by simp [fa0])), FunD.bindsN (ps := ["_law_which", "_law_thing"]) F4 fun _ _ _ _ _ _ us hl => match us, hl with | [_, _], _ => rfl⟩
  obtain ⟨fd5, F5⟩ := d.def_ 5 (d := topD "_law_plain" 43) rfl
  have D5 : DnP K mg "_law_plain" (top 43) [] (He.ga K "_law_plain") fd5 := ⟨F5, glo _ (in0 (by simp [fa0])), FunD.bindsN (ps := []) F5 fun _ _ _ _ _ _ us hl => match us, hl with | [], _ => rfl⟩
  obtain ⟨fd6, F6⟩ := d.def_ 6 (d := topD "_law_kinds" 44) rfl
  have D6 : DnP K mg "_law_kinds" (top 44) ["_law_e"] (He.ga K "_law_kinds") fd6 := ⟨F6, glo _ (in0 (by simp [fa0])), FunD.bindsN (ps := ["_law_e"]) F6 fun _ _ _ _ _ _ us hl => match us, hl with | [_], _ => rfl⟩
  obtain ⟨fd, F⟩ := d.def_ 7 (d := topD "law" 45) rfl
  have e := hfa.symm.trans (glo "law" (in0 (by simp [fa0])))
  cases e
  obtain ⟨fi0, I0⟩ := d.def_ 8 (d := iniD "BadNet" "BadNet.__init__" 30) rfl
  have b0 := FunD.bindsN (ps := ["self", "part"]) I0 fun _ _ _ _ _ _ us hl => match us, hl with | [_, _], _ => rfl
  obtain ⟨fi1, I1⟩ := d.def_ 9 (d := iniD "BadWeb" "BadWeb.__init__" 31) rfl
  have b1 := FunD.bindsN (ps := ["self", "part"]) I1 fun _ _ _ _ _ _ us hl => match us, hl with | [_, _], _ => rfl
  obtain ⟨fi2, I2⟩ := d.def_ 10 (d := iniD "Barred" "Barred.__init__" 32) rfl
  have b2 := FunD.bindsN (ps := ["self", "side"]) I2 fun _ _ _ _ _ _ us hl => match us, hl with | [_, _], _ => rfl
  obtain ⟨fi3, I3⟩ := d.def_ 11 (d := iniD "TooMany" "TooMany.__init__" 33) rfl
  have b3 := FunD.bindsN (ps := ["self", "most"]) I3 fun _ _ _ _ _ _ us hl => match us, hl with | [_, _], _ => rfl
  obtain ⟨fi4, I4⟩ := d.def_ 12 (d := iniD "Crossed" "Crossed.__init__" 34) rfl
  have b4 := FunD.bindsN (ps := ["self", "parting"]) I4 fun _ _ _ _ _ _ us hl => match us, hl with | [_, _], _ => rfl
  obtain ⟨fi5, I5⟩ := d.def_ 13 (d := iniD "Crowded" "Crowded.__init__" 35) rfl
  have b5 := FunD.bindsN (ps := ["self", "lot"]) I5 fun _ _ _ _ _ _ us hl => match us, hl with | [_, _], _ => rfl
  obtain ⟨fi6, I6⟩ := d.def_ 14 (d := iniD "Resting" "Resting.__init__" 36) rfl
  have b6 := FunD.bindsN (ps := ["self", "left"]) I6 fun _ _ _ _ _ _ us hl => match us, hl with | [_, _], _ => rfl
  have bl := FunD.bindsA (ps := ["_law_script"]) F fun _ _ _ _ _ _ us hl => match us, hl with | [_], _ => rfl
  refine ⟨fd, fun s v => bl s [v] rfl, fun base _ _ => ok_law F D0 D2 D3 D4 D5 D6 B C (ok_hand D0 B.toBt) (ok_any D2 D1 B.toBt) (ok_deep D3 D2 D1 B) (ok_wf D4 B C I0 (ci "BadNet" "part" (by decide +kernel)) b0 I2 (ci "Barred" "side" (by decide +kernel)) b2 I3 (ci "TooMany" "most" (by decide +kernel)) b3 I1 (ci "BadWeb" "part" (by decide +kernel)) b1 I4 (ci "Crossed" "parting" (by decide +kernel)) b4 I5 (ci "Crowded" "lot" (by decide +kernel)) b5 I6 (ci "Resting" "left" (by decide +kernel)) b6) (ok_plain D5 B C) (ok_kinds D6 B C)⟩
end K00
open PySem PySem.W PySem.Calls PyProof.Rows
theorem PySem.Challenge.cw_sparetrees_k00_errors_of_the_package_holds : PySem.Challenge.rw_sparetrees_k00_errors_of_the_package.Holds := by
  w_on; o_law
  refine HandSHeadRun.head_any (r := OpenLaw.row PySem.Challenge.rw_sparetrees_k00_errors_of_the_package) (q := view (OpenLaw.row PySem.Challenge.rw_sparetrees_k00_errors_of_the_package).prog [45]) (H := K00.hk) (ob := K00.ob) (M := 20000) (loose := K00.others) (d := HandSHeadRun.topDef (OpenLaw.row PySem.Challenge.rw_sparetrees_k00_errors_of_the_package).prog 45) (kwd := []) K00.ob_eq
    (by kernel_rfl) (fun s => by kernel_rfl) K00.run (by kernel_rfl) (by kernel_rfl) (by kernel_rfl) (by rfl) (by first | assumption | decide +kernel) (by decide +kernel) ⟨rfl, rfl, rfl, rfl, rfl, by decide +kernel⟩ ?hw ?hc
  case hw => w_witness2
  case hc =>
    refine Kv.walkG (l := PySem.Challenge.rw_sparetrees_k00_errors_of_the_package) (n := 63) (k := 4) (x := "_law_script") rfl (by decide) (by kernel_rfl) ⟨rfl, by decide, by decide⟩ ?F
    intro w mg fa h Y G hmg0
    obtain ⟨K, KX, c⟩ := Y
    have hmg : mg ("law" : PySem.Str) = some (.ref fa) := by
      have e : (HandSHeadRun.topDef (OpenLaw.row PySem.Challenge.rw_sparetrees_k00_errors_of_the_package).prog 45).name = ("law" : PySem.Str) := by kernel_rfl
      rw [← e]
      exact hmg0
    obtain ⟨fd, hb, hF⟩ := K00.facts (P := (PySem.Challenge.rw_sparetrees_k00_errors_of_the_package).prog) (w := w) KX G hmg c
    exact ⟨K, fd, K00.spLaw K, KX, hb, fun H a ns hl _ _ hS => ⟨a, ns, rfl, hS, hl, fun _ => rfl⟩, hF⟩
#print axioms PySem.Challenge.cw_sparetrees_k00_errors_of_the_package_holds
