import PyProof.Rows.All
import Wide.All
import OpenK.AllK
import Wide.FinOn
import HandS.ForMost
import HandS.Defaults
import HandS.EndBits
import HandS.EndOwn
import KE.KExcIs
import PyProof.ReprRoads
import HandS.ForExc
import HandS.ExcInit
import HandS.ExcValue
import HandS.ExcField
import HandS.Zip
import PyProof.ReprLen
import HandS.IsInst
import HandS.TupAny
import HandS.TupMul
import KE.GoesEnum
import PyProof.EnumMake
import PyProof.Draws
import HandS.Iter
import HandS.Walk
import PyProof.InstEq
import HandS.SlotsOwn
import HandS.Codes
import KE.KStateDown
import HandS.Conv
import HandS.HeadHook1
import HandS.DeepEq
import HandS.TryOnly
import HandS.Head0
import HandS.Head1
import HandS.Head2
import HandS.HeadHook2
import HandS.HeadHook3
import HandS.HeadHook4
import PySem.Challenge.RW_sparetrees_k01_nets_judged
set_option Elab.async false
set_option linter.all false
set_option maxRecDepth 100000
set_option maxHeartbeats 0
namespace Kv
open PySem PySem.Spec PyProof.Rows L2

/-- the five items of the drawer's list -/
def five (c : Addr) (i d s t : Int) : List V := [.ref c, .int i, .int d, .int s, .int t]
/-- the drawer's list at a, over the cells at c; where it stands is left open -/
def drw (a c : Addr) : HO := .ext fun h => ∃ (i d s t : Int) (its : List Value) (k : Nat), 0 ≤ i ∧ Vals (five c i d s t) its ∧ h.get? a = some { cls := .type "list", data := .seq its.toArray k }

theorem drw_at {P : Program} {w : World} {H : Hp} {h : Heap} {a c : Addr} (x : ObjOk P w H h a (drw a c)) :
    ∃ (i d s t : Int) (its : List Value) (k : Nat), 0 ≤ i ∧ Vals (five c i d s t) its ∧ h.get? a = some { cls := .type "list", data := .seq its.toArray k } := x.1
theorem drw_ok {P : Program} {w : World} {H : Hp} {h : Heap} {a c : Addr} {i d s t : Int} (hi : 0 ≤ i) (x : ObjOk P w H h a (.lst (five c i d s t))) {H' : Hp} : ObjOk P w H' h a (drw a c) := by
  obtain ⟨_, its, n, r, e⟩ := x
  refine ⟨⟨i, d, s, t, its, n, hi, r, e⟩, ⟨_, e⟩, fun h1 h2 z q => ?_⟩
  obtain ⟨i, d, s, t, its, n, hi, r, e⟩ := z
  exact ⟨i, d, s, t, its, n, hi, r, q _ e⟩
theorem drw_own {a c x : Addr} : drw a c ≠ .own x := fun z => by
  have z' : HO.ext _ = HO.own x := z
  cases z'
theorem drw_tup {a c : Addr} {xs : List V} : drw a c ≠ .tup xs := fun z => by
  have z' : HO.ext _ = HO.tup xs := z
  cases z'
theorem drw_frz {a c : Addr} {o : Obj} {u : HO} : drw a c ≠ .frz o u := fun z => by
  have z' : HO.ext _ = HO.frz o u := z
  cases z'
theorem drw_tbl {a c : Addr} {ps : Array Value} : drw a c ≠ .tbl ps := fun z => by
  have z' : HO.ext _ = HO.tbl ps := z
  cases z'
theorem drw_lst {a c : Addr} {xs : List V} : drw a c ≠ .lst xs := fun z => by
  have z' : HO.ext _ = HO.lst xs := z
  cases z'
/-- two descriptions of one heap that part at a alone -/
theorem hok_swap {P : Program} {w : World} {H H' : Hp} {h : Heap} {a : Addr} {o : HO} (hok : HOk P w H h) (he : ∀ b, b ≠ a → H' b = H b) (hn : ∀ u, H a = some u → (∀ x, u ≠ .own x) ∧ ∀ xs, u ≠ .tup xs) (ha : H' a = some o) (new : ObjOk P w H' h a o) : HOk P w H' h := fun b u e => by
  by_cases hb : b = a
  · rw [hb] at e ⊢
    rw [ha] at e
    cases e
    exact new
  · have e1 : H b = some u := by rw [← he b hb]; exact e
    have na : ∀ c x, H c = some (.own x) → c ≠ a := fun c x q z => by rw [z] at q; exact (hn _ q).1 x rfl
    have nt : ∀ c xs, H c = some (.tup xs) → c ≠ a := fun c xs q z => by rw [z] at q; exact (hn _ q).2 xs rfl
    exact (hok b u e1).stay (fun _ _ _ q => q) (fun c q => by rw [he c (na c _ q)]; exact q) fun c xs q => by rw [he c (nt c xs q)]; exact q

/-- a def that is proved with the drawer's list laid open keeps the promise in which it is shut -/
theorem shut {P : Program} {w : World} {K : PySem.W.Frag} {mg : Str → Option Value} {base : Heap} {k : Nat} {f : Addr} {fd : FuncData} {ps : List Str} {sp spC : Sp} (F : FnOk P w K mg base CX0 k f fd ps spC)
    (hl : ∀ vs H Q E, sp vs H Q E → vs.length = ps.length)
    (h2 : ∀ vs H Q E, sp vs H Q E → ∃ a c, H a = some (drw a c) ∧ ∀ i d s t, 0 ≤ i → spC vs (upd H a (.lst (five c i d s t)))
      (fun v H' => ∃ H0 i' d' s' t', 0 ≤ i' ∧ H' = upd H0 a (.lst (five c i' d' s' t')) ∧ H0 a = some (drw a c) ∧ Q v H0) E) : FnOk P w K mg base CX0 k f fd ps sp := by
  refine ⟨hl, fun A outer s H args us vs Q E hr e0 hb hv hsp => ?_⟩
  obtain ⟨a, c, ha, hC⟩ := h2 vs H Q E hsp
  obtain ⟨i, d, sd, t, its, n, hi, rv, hget⟩ := drw_at (e0.hok a _ ha)
  have hne : ∀ b, b ≠ a → upd H a (.lst (five c i d sd t)) b = H b := fun b hb => upd_ne hb
  have hna : ∀ b, H b = none → b ≠ a := fun b e z => by rw [z, ha] at e; cases e
  have new : ObjOk P w (upd H a (.lst (five c i d sd t))) s.heap a (.lst (five c i d sd t)) := ⟨by show 5 ≤ sizeLine; decide, its, n, rv, hget⟩
  have hokC : HOk P w (upd H a (.lst (five c i d sd t))) s.heap := hok_swap e0.hok hne (fun u e => by rw [ha] at e; cases e; exact ⟨fun x => drw_own, fun xs => drw_tup⟩) upd_same new
  have eC : Env0 P w K mg base A outer s (upd H a (.lst (five c i d sd t))) := ⟨e0.frames, e0.mod, fun b o e => ⟨(e0.bs b o e).1, by rw [hne b (hna b (e0.bs b o e).2)]; exact (e0.bs b o e).2⟩, e0.bsz, e0.funs, fun b hb => by rw [hne b (hna b (e0.frf b hb))]; exact e0.frf b hb, hokC, e0.bare⟩
  refine codeAny_mono (F.run A outer s _ args us vs _ E hr eC hb hv (hC i d sd t hi)) fun r s' q => ?_
  cases r with
  | error e => exact q
  | ok fl =>
    cases fl with
    | next => exact q
    | brk => exact q
    | cont => exact q
    | ret u =>
      obtain ⟨v, H', os, bare, un, hok', rv', H0, i', d', s1, t', hi', eH, h0, hQ⟩ := q
      subst eH
      have hne2 : ∀ b, b ≠ a → H0 b = upd H0 a (.lst (five c i' d' s1 t')) b := fun b hb => (upd_ne hb).symm
      have up : ∀ {b : Addr}, H b = none → upd H a (.lst (five c i d sd t)) b = none := fun {b} e => by rw [hne b (hna b e)]; exact e
      refine ⟨v, H0, os, bare, ⟨fun b o e n hb hx => un.keep b o e (up n) hb hx, fun b o e n hb hx => un.slot b o e (up n) hb hx, fun b o e n hx => ?_, fun b o e hx => un.there b o e hx, fun b xs e => ?_, fun b o u e => ?_, fun b ps e => ?_⟩, ?_, rv', hQ⟩
      · rw [hne2 b (hna b n)]
        exact un.free b o e (up n) hx
      · have hb : b ≠ a := fun z => by rw [z, ha] at e; exact drw_tup (Option.some.inj e)
        rw [hne2 b hb]
        exact un.tups b xs (by rw [hne b hb]; exact e)
      · have hb : b ≠ a := fun z => by rw [z, ha] at e; exact drw_frz (Option.some.inj e)
        rw [hne2 b hb]
        exact un.frzs b o u (by rw [hne b hb]; exact e)
      · have hb : b ≠ a := fun z => by rw [z, ha] at e; exact drw_tbl (Option.some.inj e)
        rw [hne2 b hb]
        exact un.tbls b ps (by rw [hne b hb]; exact e)
      · exact hok_swap hok' hne2 (fun u e => by rw [upd_same] at e; cases e; exact ⟨fun x z => (nomatch z), fun xs z => (nomatch z)⟩) h0 (drw_ok hi' (hok' a _ upd_same))

/-- a def that hands back a new drawer, laid open -/
theorem shutNew {P : Program} {w : World} {K : PySem.W.Frag} {mg : Str → Option Value} {base : Heap} {k : Nat} {f : Addr} {fd : FuncData} {ps : List Str} {sp spC : Sp} (F : FnOk P w K mg base CX0 k f fd ps spC)
    (hl : ∀ vs H Q E, sp vs H Q E → vs.length = ps.length)
    (h2 : ∀ vs H Q E, sp vs H Q E → spC vs H (fun v H2 => ∃ p c i d s t, 0 ≤ i ∧ H2 p = some (.lst (five c i d s t)) ∧ Q v (upd H2 p (drw p c))) E) : FnOk P w K mg base CX0 k f fd ps sp := by
  refine ⟨hl, fun A outer s H args us vs Q E hr e0 hb hv hsp => ?_⟩
  refine codeAny_mono (F.run A outer s H args us vs _ E hr e0 hb hv (h2 vs H Q E hsp)) fun r s2 q => ?_
  rcases r with e | (_ | _ | _ | u)
  · exact q
  · exact q
  · exact q
  · exact q
  · obtain ⟨v, H2, os, bare, un, hok, rv, p, c, i, d, t, t2, hi, hp, hQ⟩ := q
    have other : ∀ b, H2 b = none → upd H2 p (drw p c) b = none := fun b e => by rw [upd_ne (fun z => by rw [z, hp] at e; cases e)]; exact e
    have ne : ∀ b, b ≠ p → upd H2 p (drw p c) b = H2 b := fun b hb => upd_ne hb
    refine ⟨v, _, os, bare, ⟨un.keep, un.slot, fun b o e n hx => other b (un.free b o e n hx), un.there, fun b xs e => ?_, fun b o u e => ?_, fun b ps e => ?_⟩, ?_, rv, hQ⟩
    · have y := un.tups b xs e
      rw [ne b (fun z => by rw [z, hp] at y; cases y)]
      exact y
    · have y := un.frzs b o u e
      rw [ne b (fun z => by rw [z, hp] at y; cases y)]
      exact y
    · obtain ⟨m, y⟩ := un.tbls b ps e
      exact ⟨m, by rw [ne b (fun z => by rw [z, hp] at y; cases y)]; exact y⟩
    · exact hok_swap hok ne (fun u e => by rw [hp] at e; cases e; exact ⟨fun x z => (nomatch z), fun xs z => (nomatch z)⟩) upd_same (drw_ok hi (hok p _ hp))
end Kv
namespace Kv
open PySem PySem.Spec PyProof.Rows L2

/-- a def's promise, kept where no text of a list or tuple is being made around the call -/
structure FnG (P : Program) (w : World) (K : PySem.W.Frag) (mg : Str → Option Value) (base : Heap) (k : Nat) (f : Addr) (fd : FuncData) (ps : List Str) (sp : Sp) : Prop where
  len : ∀ vs H Q E, sp vs H Q E → vs.length = ps.length
  run : ∀ (A : Around) (out : List Env) (s : Shared) (H : Hp) (ag : Args) (us : List Value) (vs : List V) (Q : VK) (E : XK), A.guards = some [] → Room k A → Env0 P w K mg base A out s H → BindsTo s fd ag (ps.zip us) → Vals vs us → sp vs H Q E →
    codeAny (model P w) A (.call (.ref f) ag) (CR CX0 out P w H s Q E) s
section
variable {P : Program} {w : World} {K : PySem.W.Frag} {mg : Str → Option Value} {base : Heap} {k : Nat} {f : Addr} {fd : FuncData} {ps : List Str} {sp : Sp}
theorem FnG.of (F : FnOk P w K mg base CX0 k f fd ps sp) : FnG P w K mg base k f fd ps sp := ⟨F.len, fun A out s H ag us vs Q E _ => F.run A out s H ag us vs Q E⟩

/-- the body's context at its entry -/
abbrev cxG (P : Program) (w : World) (K : PySem.W.Frag) (mg : Str → Option Value) (base : Heap) (N : List Str) (qual : Str) (sc : Scope) (f : Addr) (cd : Value) (A : Around) (out : List Env) (s : Shared) (H : Hp) (E : XK) : Cx := (cxOf CX0 P w K mg base N qual sc f cd A out s H E).nox
/-- a def by its body, where no repr is under way -/
theorem okG {x qual : Str} {ar : Arguments} {body : List Stmt} {sc : Scope} {dvs : List V} {kws : List (Str × V)} {N : List Str} (F : FunD K x qual ar body sc dvs kws f fd) (S : FnScope N ps sc) (len : ∀ vs H Q E, sp vs H Q E → vs.length = ps.length)
    (hb : ∀ (cd : Value) (A : Around) (out : List Env) (s : Shared) (H : Hp) (vs : List V) (Q : VK) (E : XK), A.guards = some [] → Room k (A.deeper (envOfC qual sc s.heap.objs.size f cd)) → sp vs H Q E →
      ∃ t, PSs (cxG P w K mg base N qual sc f cd A out s H E) body t ∧ t { nx := fun _ H1 => Q .non H1, rt := Q } (start N vs) H) : FnG P w K mg base (k + 1) f fd ps sp := by
  refine ⟨len, fun A out s H ag us vs Q E hg hr e0 bd rv hq => ?_⟩
  obtain ⟨oc, od, dV, kV, doc, pm, an, cdv, ct, osl, rfl, lk, hcd, _⟩ := F.ex
  have lenv := len vs H Q E hq
  have inK : K.In s.heap := e0.mod.kin.keeps fun b o z => (e0.bs b o z).1
  have nol : s.heap.NoLimit := e0.mod.nolimit.keeps fun b o z => (e0.bs b o z).1
  have kinds : ∀ y ∈ ps.zip us, sc.names.lookup y.1 = some .local ∨ (sc.names.lookup y.1 = some .cell ∧ ((cellsFrom (s.heap.objs.size + 1) sc.names []).lookup y.1).isSome = true) := by
    rintro ⟨n, v⟩ hy
    rcases S.par n (List.of_mem_zip hy).1 with z | z
    · exact Or.inl z
    · exact Or.inr ⟨z, PySem.W.cellsFrom_some _ _ _ (Or.inl z)⟩
  refine codeAny_call_function hr.depth (inK _ _ lk) rfl S.co S.gen rfl (PySem.W.codeRec_of inK hcd) (bd _ _ _ _ (wpAny_newFunctionEnv_cells S.kind kinds fun env henv s1 x => ?_))
  cases henv
  refine ⟨nol.keeps x.toInCall.keep, codeAny_func ?_⟩
  obtain ⟨t, ht, hw⟩ := hb cdv A out s H vs Q E hg (hr.deeper _) hq
  have I : Inv (cxOf CX0 P w K mg base N qual sc f cdv A out s H E) [] (start N vs) H s1 := inv_start S hr.hd e0 lenv rv x
  refine wpAny_mono (ht.nox.run [] s1 (start N vs) H _ I hw) (fun fl s2 hs => ?_) fun _ _ z => z
  rcases fl with _ | _ | _ | u
  · obtain ⟨σ2, H2, J, q⟩ := hs
    exact ⟨.non, H2, J.os, J.bare, J.base, J.hok, rfl, q⟩
  · obtain ⟨σ2, H2, J, q⟩ := hs
    exact q.elim
  · obtain ⟨σ2, H2, J, q⟩ := hs
    exact q.elim
  · obtain ⟨v, σ2, H2, J, r, q⟩ := hs
    exact ⟨v, H2, J.os, J.bare, J.base, J.hok, r, q⟩
end

section
variable {P : Program} {w : World} {K : PySem.W.Frag} {mg mb : Str → Option Value} {k : Nat} {fa a : Addr} {fd : FuncData} {x : Str} {sp : Sp} {z : Shared} {vs : List Value} {ns : List Int}
/-- the script's object -/
abbrev scrO (vs : List Value) : Obj := { cls := .type "list", data := .seq vs.toArray }
/-- the law's call, over an abstract heap that tracks the script or nothing -/
theorem lawAt (H : Hp) (KX : K.In z.heap) (hns : z.heap.Ns mainGlobals mg) (hbl : z.heap.Ns builtinsNs mb) (hbb : ∀ y : Str, y ≠ "__name__" → mb y = bootBuiltins y) (hlim : z.heap.NoLimit) (hgen : z.gens = #[])
    (ha : z.heap.get? a = some (scrO vs)) (rv : Vals (ns.map V.int) vs) (hlen : ns.length ≤ sizeLine) (hr : Room k callerA)
    (F : ∀ base : Heap, K.In base → base.Ns mainGlobals mg → FnG P w K mg base k fa fd [x] sp) (hbind : ∀ (s : Shared) (u : Value), BindsTo s fd ⟨[u], []⟩ [(x, u)])
    (only : ∀ b u, H b = some u → b = a ∧ u = .frz (scrO vs) (.lst (ns.map V.int))) (noK : ∀ u, H a = some u → K.lookup a = none)
    (hsp : sp [.ref a] H (fun v _ => v = .bl true) fun _ _ _ => False) :
    codeAny (model P w) callerA (.call (.ref fa) ⟨[.ref a], []⟩) (fun r s2 => r = .ok (.ret (.bool true)) ∧ OldK z.heap s2.heap ∧ s2.os = z.os ∧ AllBare s2.gens) z := by
  have hok : HOk P w H z.heap := fun b u q => by
    obtain ⟨rfl, rfl⟩ := only b u q
    exact ⟨ha, by rw [List.length_map]; exact hlen, vs, _, rv, ha⟩
  have free : ∀ {b : Addr} {o : Obj}, z.heap.get? b = some o → (∀ its n, o.data ≠ .seq its n) → H b = none := fun {b o} e nd => by
    cases q : H b with
    | none => rfl
    | some u =>
      obtain ⟨e1, _⟩ := only b u q
      rw [e1, ha] at e
      exact (nd vs.toArray _ (congrArg Obj.data (Option.some.inj e)).symm).elim
  have nsOf : ∀ {b : Addr} {m : Str → Option Value}, z.heap.Ns b m → (hidT z.heap H).Ns b m := by
    rintro b m ⟨o, es, ep, e, hd, r⟩
    exact ⟨o, es, ep, hidT_get e (free e fun its n q => by rw [hd] at q; cases q), hd, r⟩
  have inK : K.In (hidT z.heap H) := fun b o e => hidT_get (KX b o e) (by
    cases q : H b with
    | none => rfl
    | some u =>
      obtain ⟨e1, _⟩ := only b u q
      rw [e1] at e q
      rw [noK u q] at e
      cases e)
  have md : Mod K mg (hidT z.heap H) := by
    obtain ⟨mc, h1, h2⟩ := hlim
    exact ⟨inK, nsOf hns, ⟨mb, nsOf hbl, hbb⟩, mc, nsOf h1, h2⟩
  have none0 : ∀ b : Addr, b ∈ ([] : List Addr) → False := fun b q => nomatch q
  have e0 : Env0 P w K mg (hidT z.heap H) callerA [] z H := ⟨rfl, md, fun b o e => of_hidT e, Nat.le_of_eq (hidT_size _ _), trivial, fun b q => (none0 b q).elim, hok, .of_eq hgen⟩
  refine codeAny_mono ((F _ inK (nsOf hns)).run callerA [] z H ⟨[.ref a], []⟩ [.ref a] [.ref a] _ _ rfl hr e0 (hbind z (.ref a)) (.cons rfl .nil) hsp) fun r s2 q => ?_
  rcases r with e | (_ | _ | _ | u)
  · exact q.elim
  · exact q.elim
  · exact q.elim
  · exact q.elim
  · obtain ⟨v, H2, hos, hbare, un, hok2, rel, ev⟩ := q
    cases ev
    cases rel
    refine ⟨rfl, OldK.of_keep fun b o e => ?_, hos, hbare⟩
    cases q : H b with
    | none => exact un.keep b o e q (fun y => none0 b y) (fun y => none0 b y)
    | some u =>
      obtain ⟨e1, e2⟩ := only b u q
      rw [e2] at q
      obtain ⟨y, _⟩ := hok2 b _ (un.frzs b _ _ q)
      rw [e1] at e y ⊢
      rw [ha] at e
      exact y.trans e
end

/-- the end of a law's row; F: the written part, the function object, the promise -/
theorem walkG {l : PySem.W.OpenLaw} {n k : Nat} {q : Program} {loose : List Str} {XP : (Str → Option Value) → Heap → Prop} {YP : World → Heap → Prop} {d : DefRec} {x : Str}
    (hn : l.most = some n) (hn2 : n ≤ sizeLine) (hdf : d.params.defaults = []) (hr : Room k callerA)
    (F : ∀ (w : World) (mg : Str → Option Value) (fa : Addr) (h : Heap), YP w h → h.Ns mainGlobals mg → mg d.name = some (.ref fa) →
      ∃ (K : PySem.W.Frag) (fd : FuncData) (sp : Sp), K.In h ∧ (∀ (s : Shared) (u : Value), BindsTo s fd ⟨[u], []⟩ [(x, u)]) ∧
        (∀ (H : Hp) (a : Addr) (ns : List Int), ns.length ≤ n → (∀ y ∈ ns, Builtin.Int.intBits y ≤ 1048576) → Only H → SqL K H a (ns.map V.int) → sp [.ref a] H (fun v _ => v = .bl true) fun _ _ _ => False) ∧
        ∀ base : Heap, K.In base → base.Ns mainGlobals mg → FnG l.prog w K mg base k fa fd [x] sp) :
    PySem.W.WalkO q loose XP YP l.row.toRowW d [] (fun f vs => PySem.call f vs) := by
  refine Att.attach_callB hn hdf fun w s0 z mg mb fa o pm cd doc a vs ns G Y _ _ _ hmg hobj hints hlen hbits hg => ?_
  obtain ⟨K, fd, sp, KX, hb, hsp, hF⟩ := F w mg fa _ Y G.T.g hmg
  have rv := vals_ints hints
  have hle : ns.length ≤ sizeLine := Nat.le_trans hlen hn2
  cases hk : K.lookup a with
  | some ob =>
    refine lawAt (fun _ => none) KX G.T.g G.T.b G.T.builtins G.T.nolimit hg hobj rv hle hr hF hb (fun b u y => by cases y) (fun u y => by cases y) (hsp _ a ns hlen hbits (fun _ => Or.inl rfl) (Or.inr ?_))
    have e := KX a ob hk
    rw [hobj] at e
    cases e
    exact ⟨_, vs.toArray, _, hk, rfl, rfl, rfl, by rw [List.size_toArray, hints.length]; exact hle, by simpa using rv⟩
  | none =>
    have at_a : (fun b => if b = a then some (HO.frz (scrO vs) (.lst (ns.map V.int))) else none : Hp) a = some (HO.frz (scrO vs) (.lst (ns.map V.int))) := if_pos rfl
    refine lawAt (fun b => if b = a then some (HO.frz (scrO vs) (.lst (ns.map V.int))) else none) KX G.T.g G.T.b G.T.builtins G.T.nolimit hg hobj rv hle hr hF hb (fun b u y => ?_) (fun u _ => hk)
      (hsp _ a ns hlen hbits (fun b => ?_) (Or.inl (Or.inr ⟨_, at_a⟩)))
    · by_cases e : b = a
      · have y2 := (if_pos e).symm.trans y
        cases y2
        exact ⟨e, rfl⟩
      · have y2 := (if_neg e).symm.trans y
        cases y2
    · by_cases e : b = a
      · exact Or.inr ⟨_, _, if_pos e⟩
      · exact Or.inl (if_neg e)
section
variable {X : Cx} {k : Nat} {f : Addr} {fd : FuncData} {ps : List Str} {sp : Sp} {x : Str} {p pos : Pos} {e : Expr} {es : List Expr} {t : TA}
/-- the call of a def of that kind -/
theorem pe_callFG (F : FnG X.prog X.w X.K X.mg X.base k f fd ps sp) (hgd : X.A.guards = some []) (hr : Room k X.A) (hg : Gl X x) (hm : X.mg x = some (.ref f)) (hk : PySem.W.keepIn X.K (.ref f) = true) (hb : Binds X.K fd ps []) (ha : PA X (e :: es) t)
    (hdb : (x == ("__debug__" : Str)) = false := by decide) (he : starEach (e :: es) X.env = (false, eval e X.env) :: starEach es X.env := by rfl) (hpl : (backTo pos (starEach es X.env)).any (·.1) = false := by rfl) :
    PE X (.Call (.Name x p) (e :: es) [] pos) (tCall sp [] E0 t) := by
  refine ⟨fun pins s σ H Q I h => ?_⟩
  refine wpAny_Call_Name_kw (ld_glob I hg hm ?_ hdb)
  refine PySem.W.callWith_K (h₀ := X.base) I.ok.mod.kin hk (thn (ha.run pos pins s σ H _ I h) fun us s1 z => ?_) he hpl
  obtain ⟨vs, H1, I1, r, q⟩ := z
  refine ⟨I1.kIn, ?_⟩
  show wpAny _ _ (call (.ref f) us) _ _ _
  rw [List.append_nil] at q
  have hl : us.length = ps.length := by rw [← r.length]; exact F.len _ _ _ _ q
  have b := hb s1 us I1.kIn (by rw [List.append_nil]; exact hl)
  rw [List.append_nil] at b
  refine wpAny_call (codeAny_mono (F.run X.A X.stack s1 H1 ⟨us, []⟩ us vs Q E0 hgd hr I1.env0 b r q) fun r2 s' hq => ?_)
  cases r2 with
  | error e => exact hq.elim
  | ok fl =>
    cases fl with
    | ret u => exact I1.after hq
    | next => exact False.elim hq
    | brk => exact False.elim hq
    | cont => exact False.elim hq
end
end Kv
namespace Kv
open PySem PySem.Spec PyProof.Rows L2

/-! ### a new error as a value -/
section
variable {X : Cx} {C : Addr} {x : Str} {p pos : Pos} {e o : Expr} {es : List Expr} {ta : TA} {te : TE}
/-- X(), a class without an __init__ of its own -/
def tExc0 (C : Addr) : TE := fun σ H Q => ∀ a, H a = none → Q (.ref a) (upd H a (ExO (.ref C) a))
theorem pe_exc0 {bm : List Value} {B newId initId : String} (F : ExcBaseFacts B newId initId bm) (q : PySem.W.excIn X.K C bm newId = true) (gC : X.mg x = some (.ref C)) (kC : PySem.W.keepIn X.K (.ref C) = true) (hg : Gl X x)
    (hdb : (x == ("__debug__" : Str)) = false := by decide) : PE X (.Call (.Name x p) [] [] pos) (tExc0 C) := by
  refine ⟨fun pins s σ H Q I h => wpAny_Call_Name_kw (ld_glob I hg gC ?_ hdb)⟩
  refine PySem.W.callWith_K0 (first := []) I.kIn kC ?_
  show wpAny _ _ (call (.ref C) []) _ _ _
  obtain ⟨bm', N, nm, qn, bs, hdct, sn, sub, ab, col, d, k0, k1, k2, k3, k5, mN, hC, hN, hni, T⟩ := exc_obj I.kIn q
  refine wpAny_call_exc_subT F T hC hN hni (fun h2 a hm => ?_) (Nat.zero_le _)
  have free : H a = none := I.hok.gone hm.new
  obtain ⟨t, ht, _, _⟩ := hm.there
  exact ⟨.ref a, _, I.laidN hm.keeps hm.new free (exO_ok ht ⟨rfl, rfl⟩ rfl rfl rfl (show 4 < 6 by decide)), rfl, h a free⟩

/-- X(e, ..), a class with an __init__ of its own that keeps sp -/
def tExcI (C : Addr) (sp : Sp) (ta : TA) : TE := fun σ H Q => ta σ H fun vs H1 => vs.length ≤ 1000 ∧ ∀ a, H1 a = none → sp (.ref a :: vs) (upd H1 a (exo a C none)) (fun v H2 => v = .non ∧ Q (.ref a) H2) E0
theorem pe_excI {fI : Addr} {k : Nat} {fd : FuncData} {ps : List Str} {sp : Sp} (T : OexC X.K C) (iC : PySem.W.findIn X.K (.ref C) "__init__" = some (some (.ref fI))) (tI : PySem.W.typeIn X.K (.ref fI) = some (.type "function"))
    (F1 : FnOk X.prog X.w X.K X.mg X.base CX0 k fI fd ps sp) (hr : Room (k + 1) X.A) (hb : Binds X.K fd ps []) (hg : Gl X x) (hm : X.mg x = some (.ref C)) (ha : PA X (e :: es) ta)
    (hdb : (x == ("__debug__" : Str)) = false := by decide) (he : starEach (e :: es) X.env = (false, eval e X.env) :: starEach es X.env := by rfl) (hpl : (backTo pos (starEach es X.env)).any (·.1) = false := by rfl) :
    PE X (.Call (.Name x p) (e :: es) [] pos) (tExcI C sp ta) := by
  refine ⟨fun pins s σ H Q I h => wpAny_Call_Name_kw (ld_glob I hg hm ?_ hdb)⟩
  obtain ⟨nm, q, N, bs, bm, sn, sub, ab, col, d0, k0, k1, k2, k3, k5, hC, hbm⟩ := T.cls
  refine PySem.W.callWith_K (h₀ := X.base) I.ok.mod.kin T.kC (thn (ha.run pos pins s σ H _ I h) fun us z hz => ?_) he hpl
  obtain ⟨vs, H1, I1, rv, hlen, hq⟩ := hz
  refine ⟨I1.kIn, ?_⟩
  show wpAny _ _ (call (.ref C) us) _ _ _
  obtain ⟨hp, g, dr, tk, os⟩ := z
  have big : hp.objs.size ≤ hp.objs.size + 1 := Nat.le_succ _
  have want := hq (hp.objs.size + 1) (I1.hok.fresh big)
  have keep : ∀ b u, hp.get? b = some u → ((hp.push (PySem.W.kdv_tup us)).push (PySem.HandSPX.excO C hp.objs.size)).get? b = some u := fun b u y => Heap.get?_push_of_some _ (Heap.get?_push_of_some _ y)
  have there : ((hp.push (PySem.W.kdv_tup us)).push (PySem.HandSPX.excO C hp.objs.size)).get? (hp.objs.size + 1) = some (PySem.HandSPX.excO C hp.objs.size) := by heap_get
  have I2 : Inv X pins σ (upd H1 (hp.objs.size + 1) (exo (hp.objs.size + 1) C none)) ⟨(hp.push (PySem.W.kdv_tup us)).push (PySem.HandSPX.excO C hp.objs.size), g, dr, tk, os⟩ := I1.laid (t' := tk) keep big (exo_ok there)
  have rel : Vals (V.ref (hp.objs.size + 1) :: vs) (Value.ref (hp.objs.size + 1) :: us) := .cons rfl rv
  have cnt : ((Value.ref (hp.objs.size + 1) :: us) ++ []).length = ps.length := by
    rw [List.append_nil, ← rel.length]
    exact F1.len _ _ _ _ want
  have usz : us.length ≤ sizeLine := by
    rw [← rv.length, sizeLine_eq]
    omega
  have bd := hb ⟨(hp.push (PySem.W.kdv_tup us)).push (PySem.HandSPX.excO C hp.objs.size), g, dr, tk, os⟩ (Value.ref (hp.objs.size + 1) :: us) I2.kIn cnt
  rw [List.append_nil] at bd
  refine wpAny_call (PySem.HandSPX.call_own F.excBase_ValueError (fun Y => PySem.HandSPX.refsVE_contains Y bm hbm) (I1.kIn _ _ hC) (PySem.W.looks_findIn I1.kIn iC) (fun self => PySem.W.bind_fn I1.kIn self tI) usz
    (codeAny_mono (F1.run _ X.stack _ _ ⟨Value.ref (hp.objs.size + 1) :: us, []⟩ _ _ _ E0 (hr.make C us []) (I2.env0.make C us []) bd rel want) fun r s2 y => ?_))
  rcases r with er | (_ | _ | _ | u)
  · exact y.elim
  · exact y.elim
  · exact y.elim
  · exact y.elim
  · obtain ⟨v, H2, I3, rv2, ev, q3⟩ := I2.after y
    cases ev
    exact ⟨rv2, .ref (hp.objs.size + 1), H2, I3, rfl, q3⟩

/-- an error at a, of the class at C -/
def IsErr (H : Hp) (a C : Addr) : Prop := H a = some (ExO (.ref C) a) ∨ ∃ d fs, H a = some (exo a C (some d)) ∧ H d = some (exd d fs)
theorem IsErr.keep {H H2 : Hp} {a C : Addr} (k : Same H H2) (h : IsErr H a C) : IsErr H2 a C := by
  rcases h with h | ⟨d, fs, h1, h2⟩
  · exact Or.inl (k _ _ h)
  · exact Or.inr ⟨d, fs, k _ _ h1, k _ _ h2⟩
/-- e.f of such an error -/
def tErrF (K : PySem.W.Frag) (f : Str) (te : TE) : TE := fun σ H Q => te σ H fun x H1 => ∃ a C d fs v, x = .ref a ∧ H1 a = some (exo a C (some d)) ∧ H1 d = some (exd d fs) ∧ XfC K C ∧ PySem.W.findIn K (.ref C) f = some none ∧ fs.lookup f = some v ∧ Q v H1
theorem pe_errF {n : Str} (he : PE X e te) (hb : attributeBase e n X.env (eval e X.env) = eval e X.env := by rfl) : PE X (.Attribute e n pos) (tErrF X.K n te) := by
  refine ⟨fun pins s σ H Q I h => attr_of hb (thn (he.run pins s σ H _ I h) fun u z y => ?_)⟩
  obtain ⟨v0, H1, I1, rx, a, C, d, fs, v, rfl, ea, ed, T, hno, hl, q⟩ := y
  cases rx
  obtain ⟨t1, ho⟩ := exo_at I1.hok ea
  obtain ⟨mA, hns, rl⟩ := exd_at I1.hok ed
  obtain ⟨od, hod, look⟩ := lookIn_ns hns
  obtain ⟨u, hu, ru⟩ := RelO.some_of (v := v) (o := mA n) (by rw [← hl]; exact rl n)
  have J : PySem.W.InstAt z.heap a _ C (some od) := ⟨ho, rfl, rfl, hod⟩
  exact HandSPX.exc_get I1.kIn J T.ga T.gg T.exC (PySem.W.findObj_own T.hdC hno rfl (by rw [look, hu])) (handed_of ru) ⟨v, H1, I1.tok _, ru, q⟩

/-- what isinstance asks of an error's class -/
def errB (K : PySem.W.Frag) (D : Addr) : Bool := xfB K D && ((PySem.W.clsIn K D).isSome && (decide (PySem.W.findIn K (.ref D) "__class__" = some (some (.builtin "object.__class__"))) && (decide (PySem.W.specialIn K (.builtin "object.__class__") "__get__" = some (some (.builtin "getset_descriptor.__get__"))) &&
  (decide (PySem.W.takesIn K (.builtin "object.__class__") = some true) && decide (PySem.W.mroIn K D (.type "object") = some true)))))
theorem kit_err {K : PySem.W.Frag} {D a : Addr} {ox : Obj} {od : Option Obj} (h : errB K D = true) : PySem.W.KitX K (.ref a) (.ref D) (fun h => PySem.W.InstAt h a ox D od) := by
  unfold errB at h
  simp only [Bool.and_eq_true, decide_eq_true_eq] at h
  obtain ⟨h1, h2, h3, h4, h5, h6⟩ := h
  have T := xfB_ok h1
  exact PySem.W.kitx_exc h2 T.ga T.gg T.exC h3 h4 h5 h6
/-- isinstance(e, c) of an error -/
def rIsErr (K : PySem.W.Frag) : List V → Hp → VK → Prop := fun xs H Q => ∃ (a D : Addr) (c : V) (cv : Value) (b : Bool), xs = [.ref a, c] ∧ (∀ u, RelV c u → u = cv) ∧ IsErr H a D ∧ errB K D = true ∧ PySem.W.kitOne K (.ref D) cv = some b ∧ Q (.bl b) H
theorem call_isErr : CallR X (.builtin "isinstance") (rIsErr X.K) := by
  intro pins s σ H xs us Q I r h
  obtain ⟨a, D, c, cv, b, rfl, hcv, he, hB, hk, q⟩ := h
  obtain ⟨u, v, rfl, ru, rc⟩ := r.two
  cases ru
  cases hcv v rc
  rcases he with he | ⟨d, fs, he, hd⟩
  · obtain ⟨⟨oe, vs, ho, hz, hdat, _⟩, _, _⟩ := I.hok a _ he
    have J : PySem.W.InstAt s.heap a oe D none := by
      obtain ⟨oc, od, oda, osl⟩ := oe
      obtain ⟨z1, z2⟩ := hz
      dsimp only at z1 z2 hdat
      cases z1
      cases z2
      cases hdat
      exact ⟨ho, rfl, rfl, trivial⟩
    exact PySem.W.kia_one (kit_err hB) I.kIn J hk (fun y => nomatch y) fun tk => ⟨.bl b, H, I.kept (t' := tk) fun _ _ y => y, rfl, q⟩
  · obtain ⟨t1, ho⟩ := exo_at I.hok he
    obtain ⟨mA, ⟨od, es, ep, hod, _⟩, _⟩ := exd_at I.hok hd
    have J : PySem.W.InstAt s.heap a _ D (some od) := ⟨ho, rfl, rfl, hod⟩
    exact PySem.W.kia_one (kit_err hB) I.kIn J hk (fun y => nomatch y) fun tk => ⟨.bl b, H, I.kept (t' := tk) fun _ _ y => y, rfl, q⟩

/-- xs.count(y), flat items -/
def rCntF (K : PySem.W.Frag) : V → List V → Hp → VK → Prop := fun x xs H Q => ∃ (p : Addr) (ys : List V) (y : V), x = .ref p ∧ xs = [y] ∧ SqL K H p ys ∧ flatV y = true ∧ ys.all flatV = true ∧ Q (.int (ys.countP (fun z => eqV z y) : Nat)) H
theorem cnt_eqU {x : V} : ∀ {xs : List V} {us : List Value}, Vals xs us → xs.all flatV = true → us.countP (eqU x) = xs.countP fun y => eqV y x
  | _, _, .nil, _ => rfl
  | y :: xs, u :: us, .cons r t, f => by
    rw [List.all_cons, Bool.and_eq_true] at f
    rw [List.countP_cons, List.countP_cons, cnt_eqU t f.2, eqU_of r f.1]
theorem mt_countF : MtR X "list.count" (rCntF X.K) := by
  intro pins s σ H x xs v us Q I rx rxs h
  obtain ⟨p, ys, y, rfl, rfl, hs, fy, fs, q⟩ := h
  cases rx
  obtain ⟨u, rfl, ru⟩ := rxs.one
  obtain ⟨its, rv, ⟨⟨cl, od, dt, sl⟩, n, ho, hc, hdn, hd⟩, hlen⟩ := I.list hs
  dsimp only at hc hd
  cases hc
  cases hd
  refine call_meets PySem.F.slot_list_count ⟨_, ho, rfl⟩ PySem.F.entry_list_count (PySem.F.args_list_count_2 _ _) (SeqAt.list_countAt p its.toArray n od sl u (eqU y)) ⟨ho, fun w hw => mem_eqAt ru fy rv fs w (by simpa using hw), ?_⟩
  refine ⟨.int (ys.countP (fun z => eqV z y) : Nat), H, I.tok _, ⟨s.toks, ?_⟩, q⟩
  have e : its.toArray.toList.countP (eqU y) = ys.countP (fun z => eqV z y) := cnt_eqU rv fs
  rw [e]
end
end Kv
namespace Kv
open PySem PySem.Spec PyProof.Rows L2

/-- the text of data -/
def Shows (K : PySem.W.Frag) (H : Hp) (x : V) (z : Str) : Prop :=
  (∃ d, Dp K H x d ∧ d.hasDict = false ∧ d.showable = true ∧ d.depth ≤ 60 ∧ d.shown.length ≤ sizeLine ∧ z = d.shown) ∨ ∃ a, x = .ref a ∧ H a = some (.dK []) ∧ z = (PyData.dict []).shown
/-- repr(x) -/
def rRepr (K : PySem.W.Frag) : List V → Hp → VK → Prop := fun xs H Q => ∃ x z, xs = [x] ∧ Shows K H x z ∧ Q (.str z) H
theorem call_reprD {X : Cx} (hg : X.A.guards = some []) (hu : X.A.units + 100 < cLine) : CallR X (.builtin "repr") (rRepr X.K) := by
  intro pins s σ H xs us Q I r h
  obtain ⟨x, z, rfl, hz, q⟩ := h
  obtain ⟨u, rfl, ru⟩ := r.one
  have fin : ∀ tk t, EP X pins σ Q (.str z t) { s with toks := tk } := fun tk t => ⟨.str z, H, I.tok _, ⟨t, rfl⟩, q⟩
  have byRef : ∀ {a : Addr} {d : PyData} {as : List Addr}, Reads s.heap (.ref a) d as → d.showable = true → (d.hasDict = true → sysModules ∉ as) → d.depth ≤ 60 → d.shown.length ≤ sizeLine → z = d.shown →
      wpAny (model X.prog X.w) X.A (call (.builtin "repr") [.ref a]) (EP X pins σ Q) X.xe s := fun {a d as} rd hs hm hdep hl ez =>
    repr_of_reads' rd hs hm hg (by omega) (fun _ _ e => e) (fun h' t tk hk => ⟨.str d.shown, H, I.kept (t' := tk) hk, ⟨t, rfl⟩, by rw [← ez]; exact q⟩) hl
  rcases hz with ⟨d, hd, hn, hs, hdep, hl, ez⟩ | ⟨a, rfl, ha, ez⟩
  · obtain ⟨as, rd⟩ := Dp.reads I d x u hd ru
    cases hd with
    | non =>
      cases ru
      cases ez
      exact PySem.P.repr_of_none (fin _ _)
    | bl b =>
      cases ru
      cases ez
      have e : (PyData.bool b).shown = (if b then "True" else "False" : Str) := PyData.shown_bool b
      exact PySem.P.repr_of_bool (by rw [← e]; exact fin _ _)
    | int i =>
      obtain ⟨t, rfl⟩ := ru
      cases ez
      exact PySem.P.repr_of_int (of_decide_eq_true hs) (fin _ _)
    | str y =>
      obtain ⟨t, rfl⟩ := ru
      cases ez
      exact PySem.P.repr_of_str (fin _ _) hl
    | lst _ _ =>
      cases ru
      exact byRef rd hs (PyData.noDict_hsm hn) hdep hl ez
    | tup _ _ =>
      cases ru
      exact byRef rd hs (PyData.noDict_hsm hn) hdep hl ez
  · cases ru
    obtain ⟨_, hne, vs, kv, o, es, ep, ho, hx, hd, _, he, _⟩ := I.hok a _ ha
    cases kv
    have e0 : es = #[] := by
      obtain ⟨l⟩ := es
      have e1 : Pairs (mixKind X.prog X.w) l [] := he
      cases e1
      rfl
    subst e0
    have rd : Reads s.heap (.ref a) (.dict []) (a :: [] ++ []) := Reads.dict (kvs := []) ho hx.1 hd ReadsAll.nil ReadsAll.nil
    refine byRef rd rfl (fun _ hm => ?_) (by decide) (by decide) ez
    have ea : sysModules = a := List.mem_singleton.mp hm
    rw [← ea] at hne
    exact absurd hne (by decide)
end Kv
namespace Kv
open PySem PySem.Spec PyProof.Rows L2
/-! ### things: leaves, tuples, lists, the empty dict -/
mutual
inductive Th (H : Hp) : V → PyData → Prop
  | non : Th H .non .none
  | bl (b : Bool) : Th H (.bl b) (.bool b)
  | int (i : Int) : Th H (.int i) (.int i)
  | str (x : Str) : Th H (.str x) (.str x)
  | lst {a : Addr} {vs : List V} {ds : List PyData} (ha : H a = some (.lst vs)) (h : ThAll H vs ds) : Th H (.ref a) (.list ds)
  | tup {a : Addr} {vs : List V} {ds : List PyData} (ha : H a = some (.tup vs)) (h : ThAll H vs ds) (hl : vs.length ≤ 100) : Th H (.ref a) (.tuple ds)
  | dic {a : Addr} (ha : H a = some (.dK [])) : Th H (.ref a) (.dict [])
inductive ThAll (H : Hp) : List V → List PyData → Prop
  | nil : ThAll H [] []
  | cons {v : V} {d : PyData} {vs : List V} {ds : List PyData} (h : Th H v d) (t : ThAll H vs ds) : ThAll H (v :: vs) (d :: ds)
end
section
variable {H H2 : Hp} {K : PySem.W.Frag}
mutual
theorem Th.keep (e : Same H H2) : ∀ {d : PyData} {v : V}, Th H v d → Th H2 v d
  | .none, _, h => by cases h; exact .non
  | .bool b, _, h => by cases h; exact .bl b
  | .int i, _, h => by cases h; exact .int i
  | .str x, _, h => by cases h; exact .str x
  | .list ds, _, h => by
    cases h with
    | lst ha h => exact .lst (e _ _ ha) (ThAll.keep e h)
  | .tuple ds, _, h => by
    cases h with
    | tup ha h hl => exact .tup (e _ _ ha) (ThAll.keep e h) hl
  | .dict _, _, h => by
    cases h with
    | dic ha => exact .dic (e _ _ ha)
theorem ThAll.keep (e : Same H H2) : ∀ {ds : List PyData} {vs : List V}, ThAll H vs ds → ThAll H2 vs ds
  | [], _, h => by cases h; exact .nil
  | d :: ds, _, h => by
    cases h with
    | cons h1 h2 => exact .cons (Th.keep e h1) (ThAll.keep e h2)
end
theorem ThAll.length : ∀ {vs : List V} {ds : List PyData}, ThAll H vs ds → vs.length = ds.length
  | _, _, .nil => rfl
  | _, _, .cons _ t => congrArg (· + 1) t.length
theorem ThAll.get : ∀ {vs : List V} {ds : List PyData}, ThAll H vs ds → ∀ {i : Nat} {v : V}, vs[i]? = some v → ∃ d, ds[i]? = some d ∧ Th H v d
  | _, _, .nil, i, v, e => by simp at e
  | _, _, .cons h t, 0, v, e => by
    simp at e
    subst e
    exact ⟨_, rfl, h⟩
  | _, _, .cons h t, i + 1, v, e => by
    simp at e
    obtain ⟨d, h1, h2⟩ := t.get e
    exact ⟨d, by simpa using h1, h2⟩
theorem ThAll.append : ∀ {vs ws : List V} {ds es : List PyData}, ThAll H vs ds → ThAll H ws es → ThAll H (vs ++ ws) (ds ++ es)
  | _, _, _, _, .nil, h => h
  | _, _, _, _, .cons h t, h2 => .cons h (ThAll.append t h2)
theorem ThAll.take : ∀ {vs : List V} {ds : List PyData}, ThAll H vs ds → ∀ n, ThAll H (vs.take n) (ds.take n)
  | _, _, .nil, n => by simp; exact .nil
  | _, _, .cons h t, 0 => .nil
  | _, _, .cons h t, n + 1 => .cons h (t.take n)
theorem ThAll.drop : ∀ {vs : List V} {ds : List PyData}, ThAll H vs ds → ∀ n, ThAll H (vs.drop n) (ds.drop n)
  | _, _, .nil, n => by simp; exact .nil
  | _, _, .cons h t, 0 => .cons h t
  | _, _, .cons h t, n + 1 => t.drop n
/-- the type's name -/
def tyNm : PyData → String
  | .none => "NoneType"
  | .bool _ => "bool"
  | .int _ => "int"
  | .str _ => "str"
  | .list _ => "list"
  | .tuple _ => "tuple"
  | .dict _ => "dict"
theorem Th.tyx {x : V} {d : PyData} (h : Th H x d) : TyX K H x (.type (tyNm d)) := by
  cases h with
  | non => exact .base .non
  | bl b => exact .base (.bl b)
  | int i => exact .base (.int i)
  | str x => exact .base (.str x)
  | lst ha h => exact .base (.lst ha)
  | tup ha h hl => exact .base (.tup ha)
  | dic ha => exact .base (.dK ha)
def isInt : PyData → Bool
  | .int _ => true
  | .bool _ => true
  | _ => false
def isBl : PyData → Bool
  | .bool _ => true
  | _ => false
def isTup : PyData → Bool
  | .tuple _ => true
  | _ => false
theorem kit_int (d : PyData) : PySem.W.kitOne K (.type (tyNm d)) (.type "int") = some (isInt d) := by cases d <;> rfl
theorem kit_bool (d : PyData) : PySem.W.kitOne K (.type (tyNm d)) (.type "bool") = some (isBl d) := by cases d <;> rfl
theorem kit_tup (d : PyData) : PySem.W.kitOne K (.type (tyNm d)) (.type "tuple") = some (isTup d) := by cases d <;> rfl
/-- isinstance(x, int), isinstance(x, bool), isinstance(x, tuple) -/
theorem isi_int {x : V} {d : PyData} {Q : VK} (h : Th H x d) (q : Q (.bl (isInt d)) H) : rIsi K [x, .ty "int"] H Q := ⟨x, _, _, _, _, rfl, .ty _, h.tyx, kit_int d, q⟩
theorem isi_bool {x : V} {d : PyData} {Q : VK} (h : Th H x d) (q : Q (.bl (isBl d)) H) : rIsi K [x, .ty "bool"] H Q := ⟨x, _, _, _, _, rfl, .ty _, h.tyx, kit_bool d, q⟩
theorem isi_tup {x : V} {d : PyData} {Q : VK} (h : Th H x d) (q : Q (.bl (isTup d)) H) : rIsi K [x, .ty "tuple"] H Q := ⟨x, _, _, _, _, rfl, .ty _, h.tyx, kit_tup d, q⟩
/-- an integer from lo to hi -/
def isBt (d : PyData) (lo hi : Int) : Bool := match d with
  | .int i => decide (lo ≤ i) && decide (i ≤ hi)
  | _ => false
def neI : PyData → PyData → Bool
  | .int i, .int j => !decide (i = j)
  | _, _ => true
/-- a pair of unlike numbers below m -/
def isPr (d : PyData) (m : Int) : Bool := match d with
  | .tuple [a, b] => isBt a 0 (m - 1) && (isBt b 0 (m - 1) && neI a b)
  | _ => false
/-- the number of the first that is none -/
def firstBad (m : Int) : List PyData → Nat → Option Nat
  | [], _ => none
  | d :: ds, i => if isPr d m = true then firstBad m ds (i + 1) else some i
/-- what is wrong of a net's parts, none if nothing -/
def wrongV (m r l : PyData) : V :=
  if isBt m 2 10 = true then match m with
    | .int mi => if isBt r 0 (mi - 1) = true then match l with
        | .tuple ds => if ds.length > 60 then .str "links" else match firstBad mi ds 0 with
            | some i => .int (i : Int)
            | none => .non
        | _ => .str "links"
      else .str "root"
    | _ => .str "many"
  else .str "many"
section
variable {dx dy dz : PyData} {mi : Int} {ds : List PyData} {i : Nat}
theorem wv_many (h : isBt dx 2 10 = false) : wrongV dx dy dz = .str "many" := if_neg (by rw [h]; decide)
theorem wv_root (h1 : isBt (.int mi) 2 10 = true) (h2 : isBt dy 0 (mi - 1) = false) : wrongV (.int mi) dy dz = .str "root" := (if_pos h1).trans (if_neg (by rw [h2]; decide))
theorem wv_links (h1 : isBt (.int mi) 2 10 = true) (h2 : isBt dy 0 (mi - 1) = true) (h3 : isTup dz = false) : wrongV (.int mi) dy dz = .str "links" := by
  refine (if_pos h1).trans ((if_pos h2).trans ?_)
  cases dz with
  | tuple _ => cases h3
  | _ => rfl
theorem wv_long (h1 : isBt (.int mi) 2 10 = true) (h2 : isBt dy 0 (mi - 1) = true) (h3 : 60 < ds.length) : wrongV (.int mi) dy (.tuple ds) = .str "links" := (if_pos h1).trans ((if_pos h2).trans (if_pos h3))
theorem wv_item (h1 : isBt (.int mi) 2 10 = true) (h2 : isBt dy 0 (mi - 1) = true) (h3 : ¬ 60 < ds.length) (h4 : firstBad mi ds 0 = some i) : wrongV (.int mi) dy (.tuple ds) = .int (i : Int) := by
  refine (if_pos h1).trans ((if_pos h2).trans ((if_neg h3).trans ?_))
  rw [h4]
theorem wv_none (h1 : isBt (.int mi) 2 10 = true) (h2 : isBt dy 0 (mi - 1) = true) (h3 : ¬ 60 < ds.length) (h4 : firstBad mi ds 0 = none) : wrongV (.int mi) dy (.tuple ds) = .non := by
  refine (if_pos h1).trans ((if_pos h2).trans ((if_neg h3).trans ?_))
  rw [h4]
end
theorem isBt_int {d : PyData} {lo hi : Int} (h : isBt d lo hi = true) : ∃ i, d = .int i ∧ lo ≤ i ∧ i ≤ hi := by
  cases d with
  | int i =>
    have e : (decide (lo ≤ i) && decide (i ≤ hi)) = true := h
    rw [Bool.and_eq_true, decide_eq_true_eq, decide_eq_true_eq] at e
    exact ⟨i, rfl, e.1, e.2⟩
  | _ => cases h
theorem firstBad_drop {m : Int} {ds : List PyData} {i : Nat} {d : PyData} (e : firstBad m ds 0 = firstBad m (ds.drop i) i) (hd : ds[i]? = some d) :
    (isPr d m = true → firstBad m ds 0 = firstBad m (ds.drop (i + 1)) (i + 1)) ∧ (isPr d m = false → firstBad m ds 0 = some i) := by
  obtain ⟨hi, e2⟩ := List.getElem?_eq_some_iff.mp hd
  have e3 : ds.drop i = d :: ds.drop (i + 1) := by rw [List.drop_eq_getElem_cons hi, e2]
  rw [e3] at e
  refine ⟨fun h => ?_, fun h => ?_⟩
  · rw [e]
    exact if_pos h
  · rw [e]
    exact if_neg (by rw [h]; decide)
end
end Kv
namespace Kv
open PySem PySem.Spec PyProof.Rows L2
/-! ### readings that give things -/
theorem newS {H : Hp} {p : Addr} {o : HO} (h : H p = none) : Same H (upd H p o) := fun b u e => by
  rw [upd_ne (ne_of_none e h)]
  exact e
/-- whenever it is read behind H, it gives a thing -/
def ThE (te : TE) (σ : L2.St) (H : Hp) : Prop := ∀ H1, Same H H1 → ∀ Q : VK, (∀ v d H2, Same H1 H2 → Th H2 v d → Q v H2) → te σ H1 Q
def ThA (n : Nat) (ta : TA) (σ : L2.St) (H : Hp) : Prop := ∀ H1, Same H H1 → ∀ Q : List V → Hp → Prop, (∀ vs ds H2, Same H1 H2 → ThAll H2 vs ds → vs.length = n → Q vs H2) → ta σ H1 Q
section
variable {σ : L2.St} {H : Hp} {te ta tb : TE} {tr : TA} {n : Nat}
theorem ThE.non : ThE (tC .non) σ H := fun H1 _ Q k => k _ _ H1 (Same.refl _) .non
theorem ThE.bl {b : Bool} : ThE (tC (.bl b)) σ H := fun H1 _ Q k => k _ _ H1 (Same.refl _) (.bl b)
theorem ThE.int {i : Int} : ThE (tC (.int i)) σ H := fun H1 _ Q k => k _ _ H1 (Same.refl _) (.int i)
theorem ThE.str {x : Str} : ThE (tC (.str x)) σ H := fun H1 _ Q k => k _ _ H1 (Same.refl _) (.str x)
theorem ThE.neg {i : Int} : ThE (tUn (rU fun i => .int (-i)) (tC (.int i))) σ H := fun H1 _ Q k => ⟨i, rfl, k _ _ H1 (Same.refl _) (.int (-i))⟩
theorem ThE.pow {i j : Int} (h : CPow i j) : ThE (tOp (rI CPow fun i j => .int (i ^ j.toNat)) (tC (.int i)) (tC (.int j))) σ H := fun H1 _ Q k => ⟨i, j, rfl, rfl, h, k _ _ H1 (Same.refl _) (.int _)⟩
theorem ThE.var {i : Nat} {v : V} {d : PyData} (e : σ[i]? = some (some v)) (h : Th H v d) : ThE (tVar i) σ H := fun H1 s Q k => ⟨v, e, k _ _ H1 (Same.refl _) (h.keep s)⟩
theorem ThE.dic : ThE tDNewK σ H := fun H1 _ Q k p np => k _ _ _ (newS np) (.dic upd_same)
theorem ThA.nil : ThA 0 tNil σ H := fun H1 _ Q k => k [] [] H1 (Same.refl _) .nil rfl
theorem ThA.cons (h : ThE te σ H) (t : ThA n tr σ H) : ThA (n + 1) (tCons te tr) σ H := fun H1 s Q k => h H1 s _ fun v d H2 s2 hv => t H2 (s.trans s2) _ fun vs ds H3 s3 hs hn => k (v :: vs) (d :: ds) H3 (s2.trans s3) (.cons (hv.keep s3) hs) (by rw [List.length_cons, hn])
theorem ThE.tup (h : ThA n tr σ H) (hn : n ≤ 100 := by decide) : ThE (tTup tr) σ H := fun H1 s Q k => h H1 s _ fun vs ds H2 s2 hs e => ⟨by rw [e]; exact Nat.le_trans hn (by decide), fun p np => k _ _ _ (s2.trans (newS np)) (.tup upd_same (hs.keep (newS np)) (by rw [e]; exact hn))⟩
theorem ThE.lst (h : ThA n tr σ H) (hn : n ≤ 1000 := by decide) : ThE (tLst tr) σ H := fun H1 s Q k => h H1 s _ fun vs ds H2 s2 hs e => ⟨by rw [e]; exact Nat.le_trans hn (by decide), fun p np => k _ _ _ (s2.trans (newS np)) (.lst upd_same (hs.keep (newS np)))⟩
/-- a new list of n things -/
theorem lstOf {Q : VK} (h : ThA n tr σ H) (hn : n ≤ 1000) (k : ∀ p vs ds H2, H p = none → Same H H2 → H2 p = some (.lst vs) → ThAll H2 vs ds → vs.length = n → Q (.ref p) H2) : tLst tr σ H Q :=
  h H (Same.refl _) _ fun vs ds H2 s2 hs e => ⟨by rw [e]; exact Nat.le_trans hn (by decide), fun p np => k p vs ds _ (s2.free np) (s2.trans (newS np)) upd_same (hs.keep (newS np)) e⟩
theorem tupOf {Q : VK} (h : ThA n tr σ H) (hn : n ≤ 1000) (k : ∀ p vs ds H2, H p = none → Same H H2 → H2 p = some (.tup vs) → ThAll H2 vs ds → vs.length = n → Q (.ref p) H2) : tTup tr σ H Q :=
  h H (Same.refl _) _ fun vs ds H2 s2 hs e => ⟨by rw [e]; exact Nat.le_trans hn (by decide), fun p np => k p vs ds _ (s2.free np) (s2.trans (newS np)) upd_same (hs.keep (newS np)) e⟩
end
/-! ### parts of tuples -/
section
variable {K : PySem.W.Frag} {σ : L2.St} {H : Hp}
theorem cutWhole {xs : List V} {lo hi : Option Int} (h : HT.sIx xs.length 0 lo = 0 ∧ HT.sIx xs.length xs.length hi = xs.length) : cutV xs lo hi = xs := by
  unfold cutV
  rw [h.1, h.2, List.drop_zero, Nat.sub_zero, List.take_length]
theorem cutLen (xs : List V) (n : Nat) : (cutV xs none (some (n : Int))).length ≤ n := by
  unfold cutV
  rw [List.length_take, HT.sIx_nat]
  omega
theorem cutAt (xs : List V) (n : Nat) (h : n < xs.length) (v : V) : ((cutV xs none (some (n : Int)) ++ [v]) ++ cutV xs (some ((n : Int) + 1)) none).length = xs.length := by
  have e : ((n : Int) + 1) = ((n + 1 : Nat) : Int) := rfl
  rw [e]
  unfold cutV
  rw [List.length_append, List.length_append, List.length_take, List.length_take, List.length_drop, List.length_drop, HT.sIx_nat, HT.sIx_nat, HT.sIx_none, HT.sIx_none]
  show min (min n xs.length - 0) (xs.length - 0) + 1 + min (xs.length - min (n + 1) xs.length) (xs.length - min (n + 1) xs.length) = xs.length
  omega
/-- list(t) of a tuple or list in a name -/
theorem ThE.list {i : Nat} {l : Addr} {vs : List V} {ds : List PyData} (e : σ[i]? = some (some (.ref l))) (hl : H l = some (.tup vs)) (hs : ThAll H vs ds) :
    ThE (tCB (fun xs H Q => ∃ p ys, xs = [.ref p] ∧ (SqL K H p ys ∨ SqT K H p ys) ∧ ∀ l, H l = none → Q (.ref l) (upd H l (.lst ys))) (tCons (tVar i) tNil)) σ H := fun H1 s Q k =>
  ⟨_, e, l, vs, rfl, Or.inr (SqT.of (s _ _ hl)), fun q nq => k _ _ _ (newS nq) (.lst upd_same ((hs.keep s).keep (newS nq)))⟩
/-- t[:n] -/
theorem ThE.cut {i n : Nat} {l : Addr} {vs : List V} {ds : List PyData} (e : σ[i]? = some (some (.ref l))) (hl : H l = some (.tup vs)) (hs : ThAll H vs ds) (hn : n ≤ 100) :
    ThE (tSl (rSlA K) (tVar i) tNoPart (tPart (tC (.int (n : Int))))) σ H := fun H1 s Q k => by
  have hc : ThAll H1 (cutV vs none (some (n : Int))) _ := ((hs.keep s).drop _).take _
  refine ⟨_, e, (n : Int), rfl, l, vs, rfl, SqT.of (s _ _ hl), fun h => k _ _ H1 (Same.refl _) (.tup (s _ _ hl) (hs.keep s) ?_), fun _ p np => k _ _ _ (newS np) (.tup upd_same (hc.keep (newS np)) (Nat.le_trans (cutLen vs n) hn))⟩
  have := cutLen vs n
  rw [cutWhole h] at this
  exact Nat.le_trans this hn
end
section
variable {K : PySem.W.Frag} {H : Hp} {Q : VK}
theorem slTup {a : Addr} {xs : List V} {lo hi : Option Int} (ha : H a = some (.tup xs)) (k : ∀ q H2, Same H H2 → H2 q = some (.tup (cutV xs lo hi)) → Q (.ref q) H2) : rSlA K (.ref a) lo hi H Q :=
  ⟨a, xs, rfl, SqT.of ha, fun h => k a H (Same.refl _) (by rw [cutWhole h]; exact ha), fun _ p np => k p _ (newS np) upd_same⟩
theorem catTup {a b : Addr} {xs ys : List V} (ha : H a = some (.tup xs)) (hb : H b = some (.tup ys)) (hl : xs.length + ys.length ≤ 10000) (k : ∀ q H2, Same H H2 → H2 q = some (.tup (xs ++ ys)) → Q (.ref q) H2) : rCatA K (.ref a) (.ref b) H Q := by
  refine ⟨a, b, xs, ys, rfl, rfl, SqT.of ha, SqT.of hb, Nat.le_trans hl (by decide), fun e => ?_, fun _ e => ?_, fun _ _ p np => k p _ (newS np) upd_same⟩
  · subst e
    exact k b H (Same.refl _) hb
  · subst e
    exact k a H (Same.refl _) (by rw [List.append_nil]; exact ha)
theorem ThAll.cut {xs : List V} {ds : List PyData} (h : ThAll H xs ds) (lo hi : Option Int) : ∃ es, ThAll H (cutV xs lo hi) es := ⟨_, (h.drop _).take _⟩
theorem ThAll.rep {xs : List V} {ds : List PyData} (h : ThAll H xs ds) : ∀ n : Nat, ∃ es, ThAll H (List.replicate n xs).flatten es
  | 0 => ⟨[], .nil⟩
  | n + 1 => by
    obtain ⟨es, he⟩ := ThAll.rep h n
    refine ⟨ds ++ es, ?_⟩
    rw [List.replicate_succ, List.flatten_cons]
    exact h.append he
end
end Kv
/-! enumerate over a tuple -/
namespace Kv
open PySem PySem.Spec PyProof.Rows L2
/-- the record that enumerate makes over the iterator at j -/
abbrev enO (j : Addr) : Obj := { cls := .type "enumerate", data := .fields #[.none, .bool false, .ref j, rawInt 0, .none, .none] }
theorem new_enum1 {v : Value} {src : Obj} {Pre : Heap → Prop} (B : Begins v src Pre) :
    Meets (Builtin.«enumerate.__new__» ⟨[.type "enumerate", v], []⟩) (fun _ R z => Pre z.heap ∧ R (.ok (.ret (.ref (z.heap.push src).objs.size))) { z with heap := (z.heap.push src).push (enO z.heap.objs.size) }) :=
  .of_wp fun prog w A R z pre => by
    obtain ⟨h0, gs, dr, k, io⟩ := z
    obtain ⟨ok, back⟩ := pre
    have subE := sub_enumerate
    have start : ∀ {A2 : Around} {X2 : Value → Shared → Prop} {Q2 : Value → Shared → Prop}, Q2 (.ref h0.objs.size) ⟨h0.push src, gs, dr, k, io⟩ → wpAny (model prog w) A2 (pyIter v) Q2 X2 ⟨h0, gs, dr, k, io⟩ := fun y => B.iter prog w _ _ ⟨h0, gs, dr, k, io⟩ _ ok y
    wp_walk using start
    refine wpAny_stack_any fun _ => wpAny_pure ?_
    split
    · rename_i cl _ _ _ _ _
      cases (cl == Value.type "enumerate") <;> (wp_walk using start; exact ⟨_, rfl, back⟩)
    · wp_walk using start
      exact ⟨_, rfl, back⟩
section
variable {prog : Program} {w : World} {A : Around} {X0 : Value → Shared → Prop} {z : Shared}
theorem call_enum1 {v : Value} {src : Obj} {Pre : Heap → Prop} {Q : Value → Shared → Prop} (B : Begins v src Pre) (ok : Pre z.heap)
    (fin : ∀ h2, IsEnum h2 (z.heap.objs.size + 1) z.heap.objs.size 0 .none → h2.get? z.heap.objs.size = some src → (∀ b o, z.heap.get? b = some o → h2.get? b = some o) → Q (.ref (z.heap.objs.size + 1)) { z with heap := h2 }) :
    wpAny (model prog w) A (call (.type "enumerate") [v]) Q X0 z := by
  refine callType_new F.called_enumerate (by decide) (F.typeCall_enumerate_1 _) (F.newCall_enumerate_1 _) (fun obj => F.args_object_init_2 obj _) F.entry_enumerate_new (new_enum1 B) ⟨ok, ?_⟩
  have n1 : (z.heap.push src).objs.size = z.heap.objs.size + 1 := Heap.size_push ..
  have made : ((z.heap.push src).push (enO z.heap.objs.size)).get? (z.heap.objs.size + 1) = some (enO z.heap.objs.size) := by
    rw [← n1]
    exact Heap.get?_push_size _ rfl
  rw [n1]
  exact ⟨⟨_, made, rfl⟩, fin _ made (Heap.get?_push_of_some _ (Heap.get?_push_size _ B.free)) fun b o y => Heap.get?_push_of_some _ (Heap.get?_push_of_some _ y)⟩
end
/-- at each turn a new pair of the number and the tuple's item -/
def IteT (K : PySem.W.Frag) (a : Addr) : It :=
  ⟨fun i H => ∃ (xs : List V) (x : V), SqT K H a xs ∧ xs[i]? = some x, fun i H v H' => ∃ T x, v = .ref T ∧ H T = none ∧ H' = upd H T (.tup [.int (i : Nat), x]) ∧ ∀ xs, SqT K H a xs → xs[i]? = some x, fun i H => ∃ xs : List V, SqT K H a xs ∧ xs.length ≤ i⟩
/-- how the enumerate object c over the iterator j over the tuple a stands at turn i -/
def EnSt (c j a : Addr) (i : Nat) (h : Heap) : Prop := (∃ last, IsEnum h c j ((i : Nat) : Int) last) ∧ h.IsTupleIter j a i ∧ c ≠ j
theorem two {c j b : Addr} (hb : b ∈ [c, j]) : b = c ∨ b = j := by simpa using hb
theorem en_apart {h : Heap} {c j a : Addr} {k : Int} {last : Value} {i : Nat} {its : Array Value} (hc : IsEnum h c j k last) (hj : h.IsTupleIter j a i) (ht : h.IsTuple a its) : a ≠ j ∧ c ≠ a := by
  obtain ⟨ot, gt, ct, _⟩ := ht
  refine ⟨fun y => ?_, fun y => ?_⟩
  · obtain ⟨oj, gj, cj, _⟩ := hj
    rw [y, gj] at gt
    have eo : oj = ot := Option.some.inj gt
    rw [← eo, cj] at ct
    exact absurd ct (by decide)
  · rw [← y, show h.get? c = _ from hc] at gt
    have eo := (Option.some.inj gt).symm
    rw [eo] at ct
    exact absurd (show Value.type "enumerate" = Value.type "tuple" from ct) (by decide)
theorem turn_enumT {P : Program} {w : World} {K : PySem.W.Frag} {elts : List Expr} {kk : Nat} {tpos : Pos} (a c j : Addr) : Turn P w K (.Tuple elts kk tpos) (IteT K a) [c, j] c (EnSt c j a) where
  mem := List.mem_cons_self
  obj := fun i h st b hb => by
    obtain ⟨⟨last, hc⟩, ⟨oj, gj, _, dj⟩, _⟩ := st
    rcases two hb with y | y <;> rw [y]
    · exact ⟨_, hc, fun v q => nomatch q⟩
    · exact ⟨oj, gj, fun v q => by rw [dj] at q; cases q⟩
  keep := fun i h h2 st kp => ⟨⟨st.1.choose, kp c (by simp) _ st.1.choose_spec⟩, st.2.1.at fun o y => kp j (by simp) o y, st.2.2⟩
  item := by
    rintro X rfl rfl rfl calm i pins s σ H E I fp ⟨⟨last, hc⟩, hj, ncj⟩ ⟨xs, x, hx, xi⟩
    obtain ⟨its, rv, isT, _⟩ := I.tuple hx
    obtain ⟨u, ui, ru⟩ := rv.get xi
    have tup : s.heap.IsTuple a its.toArray := isT
    obtain ⟨naj, nca⟩ := en_apart hc hj tup
    have cs : c < s.heap.objs.size := Heap.lt_size hc
    have js : j < s.heap.objs.size := Heap.lt_size hj.choose_spec.1
    have inR : i < its.toArray.size := by simpa using (List.getElem?_eq_some_iff.mp ui).1
    have out : c ∉ [j, a] := fun y => (List.mem_cons.mp y).elim ncj fun y => nca (List.mem_singleton.mp y)
    refine wpAny_pyNext_enum_itemD (Draws.tuple (A := X.A.in1) (show X.A.in1.handled = none from I.ok.hd calm) j a naj its.toArray) hc ⟨hj, tup⟩ inR ncj out fun u2 h2 tk hu2 gave st2 newT _ kept => ?_
    have same : u2 = u := Option.some.inj ((show its[i]? = some u2 by simpa using hu2).symm.trans ui)
    subst same
    refine ⟨_, rfl, wpAny_letOwnedTupleGo_enum (s := { s with heap := h2, toks := tk + 1 }) gave fun h3 hc3 only => ?_⟩
    have newT3 := (only.2 _ (Nat.ne_of_gt cs)).trans newT
    have kept3 : ∀ b o, b ∉ [c, j] → s.heap.get? b = some o → h3.get? b = some o := fun b o nb y => by
      have n1 : b ≠ c := fun e => nb (by simp [e])
      have n2 : b ≠ j := fun e => nb (by simp [e])
      exact (only.2 b n1).trans (kept b o n1 n2 y)
    have J : Inv X pins σ (upd H s.heap.objs.size (.tup [.int (i : Nat), x])) { s with heap := h3, toks := tk + 1 } :=
      I.turnedNew kept3 fp (Nat.le_refl _) ⟨by show 2 ≤ sizeLine; decide, _, .cons ⟨tk, rfl⟩ (.cons ru .nil), ⟨_, newT3, rfl, _, rfl⟩⟩
    refine ⟨.ref s.heap.objs.size, _, J, rfl, ⟨_, x, rfl, I.hok.fresh (Nat.le_refl _), rfl, fun ys hy => by rw [I.tuple_inj hy hx]; exact xi⟩, ⟨⟨u2, ?_⟩, st2.1.at fun o y => (only.2 j (Ne.symm ncj)).trans y, ncj⟩, fun b hb => ?_⟩
    · rw [show ((i + 1 : Nat) : Int) = (i : Int) + 1 by omega]
      exact hc3
    · have lt : b < s.heap.objs.size := (two hb).elim (fun y => y ▸ cs) fun y => y ▸ js
      rw [upd_ne (Nat.ne_of_lt lt)]
      exact (fp b hb).1
  done := by
    rintro X rfl rfl rfl calm i pins s σ H E I fp ⟨⟨last, hc⟩, hj, ncj⟩ ⟨xs, hx, le⟩
    obtain ⟨its, rv, isT, _⟩ := I.tuple hx
    have len := rv.length
    obtain ⟨a0, a1, a2, a3, a4, a5⟩ := fp j (by simp)
    have ty : s.TypeIs (.ref c) "enumerate" := ⟨_, hc, rfl⟩
    unfold pyNext
    refine wpAny_bind (wpAny_attempt (wpAny_callSpecial?_slot (name := Str.ofString "__next__") ty F.slot_enumerate_next (wpAny_call_entry F.slot_enumerate_next ty F.entry_enumerate_next ?_ (F.args_enumerate_next_1 _))))
    show wpAny _ _ (field (.ref c) 2 >>= _) _ _ _
    refine wpAny_bind (wpAny_field hc rfl (x := .ref j) rfl (wpAny_bind (wpAny_nextOf_tuple_end (I.ok.hd calm) hj (show s.heap.IsTuple a its.toArray from isT) (by simp; omega) fun h2 er kept stop => ?_)))
    exact wpAny_bind (wpAny_isInstance (T := "StopIteration") (b := true) stop isSubtype_stop (wpAny_pure ⟨rfl, I.turned (t' := s.toks) (fun b o nb y => kept b o nb y) a0 a1 a3 a4 a5⟩))
  self := fun A i s Q E st y => wpAny_pyIter_enum st.1.choose_spec y
def iEnumT (K : PySem.W.Frag) (ta : TA) : TI := fun σ H R => ta σ H fun vs H1 => ∃ a xs, vs = [.ref a] ∧ SqT K H1 a xs ∧ R (IteT K a) H1
theorem pi_enumT {X : Cx} {e : Expr} {ta : TA} {p pos tpos : Pos} {elts : List Expr} {kk : Nat} (hg : Gl X "enumerate") (hm : X.mg "enumerate" = none) (ha : PA X [e] ta) (hs : starEach [e] X.env = [(false, eval e X.env)] := by rfl) :
    PI X (.Tuple elts kk tpos) (.Call (.Name "enumerate" p) [e] [] pos) (iEnumT X.K ta) := by
  refine ⟨fun pins s σ H R I h => ?_⟩
  refine Call_ (ld_blt I hg hm boot_enumerate (PyProof.Rows.callWith_type1 (thn (ha.run pos pins s σ H _ I h) fun us t y => ?_) hs rfl))
  obtain ⟨vs, G, J, rel, a, xs, rfl, hx, q⟩ := y
  obtain ⟨u, rfl, ru⟩ := rel.one
  cases ru
  obtain ⟨its, rv, isT, _⟩ := J.tuple hx
  refine call_enum1 (begins_tuple a its.toArray) (show t.heap.IsTuple a its.toArray from isT) fun h2 hc hj kept => wpAny_pyIter_enum hc ?_
  refine ⟨t.heap.objs.size + 1, [t.heap.objs.size + 1, t.heap.objs.size], _, _, G, rfl, J.kept (t' := t.toks) kept, turn_enumT a _ _, ⟨⟨.none, hc⟩, ⟨_, hj, rfl, rfl⟩, Nat.succ_ne_self _⟩, fun b hb => ?_, q⟩
  have above : t.heap.objs.size ≤ b := (two hb).elim (fun y => by rw [y]; exact Nat.le_succ _) fun y => by rw [y]; exact Nat.le_refl _
  exact J.fpOk above (J.hok.fresh above)
theorem walk_enumT {K : PySem.W.Frag} {a : Addr} {xs : List V} : Walk (IteT K a) xs.length (fun H => H a = some (.tup xs)) (YPair (fun i => some (.int (i : Nat))) (fun i => xs[i]?)) where
  goes := fun i H hi h => ⟨xs, xs[i], SqT.of h, List.getElem?_eq_getElem hi⟩
  stops := fun H h => ⟨xs, SqT.of h, Nat.le_refl _⟩
  yields := fun i H x H' hi h y => by
    obtain ⟨T, x2, ev, hT, eH, hx⟩ := y
    exact ⟨T, _, x2, ev, hT, eH, rfl, hx xs (SqT.of h)⟩
end Kv
/-! C(..) that may raise within a try; isinstance(e, c) of the caught one -/
namespace Kv
open PySem PySem.Spec PyProof.Rows L2
section
variable {X : Cx} {CX : CXT} {C f : Addr} {k : Nat} {fd : FuncData} {ps : List Str} {sp : Sp} {E : L2.St → XK} {x : Str} {p pos : Pos} {e : Expr} {es : List Expr} {t : TA}
def tMakeS (C : Addr) (sp : Sp) (E : L2.St → XK) (t : TA) : TE := fun σ H Q => t σ H fun vs H1 => ∀ x dx, H1 x = none → H1 dx = none → dx ≠ x →
  sp (.ref x :: vs) (upd (upd H1 dx (.own x)) x (.ins C dx [])) (fun v H2 => v = .non ∧ Q (.ref x) H2) (E σ)
theorem pe_makeS (M : Mk X.K C f) (F : FnOk X.prog X.w X.K X.mg X.base CX k f fd ps sp) (hr : Room (k + 1) X.A) (hg : Gl X x) (hm : X.mg x = some (.ref C)) (hb : Binds X.K fd ps []) (hx : ∀ σ, PassesAt CX X σ (E σ))
    (ha : PA X (e :: es) t) (hdb : (x == ("__debug__" : Str)) = false := by decide) (he : starEach (e :: es) X.env = (false, eval e X.env) :: starEach es X.env := by rfl) (hpl : (backTo pos (starEach es X.env)).any (·.1) = false := by rfl) :
    PE X (.Call (.Name x p) (e :: es) [] pos) (tMakeS C sp E t) := by
  refine ⟨fun pins s0 σ H0 Q I0 h0 => ?_⟩
  refine wpAny_Call_Name_kw (ld_glob I0 hg hm ?_ hdb)
  refine PySem.W.callWith_K (h₀ := X.base) I0.ok.mod.kin M.kp (thn (ha.run pos pins s0 σ H0 _ I0 h0) fun us s1 z => ?_) he hpl
  obtain ⟨vs, H, I, r, h⟩ := z
  refine ⟨I.kIn, ?_⟩
  show wpAny _ _ (call (.ref C) us) _ _ _
  have hq := h (s1.heap.objs.size + 1) s1.heap.objs.size (I.hok.fresh (Nat.le_succ _)) (I.hok.fresh (Nat.le_refl _)) (Nat.ne_of_lt (Nat.lt_succ_self _))
  have I2 := Inv.made (C := C) I
  have r2 : Vals (V.ref (s1.heap.objs.size + 1) :: vs) (Value.ref (s1.heap.objs.size + 1) :: us) := .cons rfl r
  have hl : (Value.ref (s1.heap.objs.size + 1) :: us ++ []).length = ps.length := by
    have e := r2.length
    rw [F.len _ _ _ _ hq] at e
    rw [List.append_nil]
    exact e.symm
  have bd := hb _ (Value.ref (s1.heap.objs.size + 1) :: us) I2.kIn hl
  rw [List.append_nil] at bd
  refine wpAny_call (make_map (f := f) I.kIn M.makes M.init (beq_iff_eq.mp M.fn) (codeAny_mono (F.run _ X.stack _ _ ⟨Value.ref (s1.heap.objs.size + 1) :: us, []⟩ (Value.ref (s1.heap.objs.size + 1) :: us) _ _ (E σ) (hr.make C us [])
    (I2.env0.make C us []) bd r2 hq) fun r s' hq' => ?_))
  cases r with
  | error e => exact hx σ pins _ _ e s' I2 hq'
  | ok fl =>
    cases fl with
    | ret u =>
      obtain ⟨v, H', I3, rv, ev, q3⟩ := I2.after hq'
      subst ev
      exact ⟨rv, ⟨V.ref (s1.heap.objs.size + 1), H', I3, rfl, q3⟩⟩
    | next => exact False.elim hq'
    | brk => exact False.elim hq'
    | cont => exact False.elim hq'
end
def rIsX (K : PySem.W.Frag) (a : Addr) (cls : Value) (d : Option Addr) : List V → Hp → VK → Prop := fun xs H Q => ∃ (D dd : Addr) (fs : List (Str × V)) (c : V) (cv : Value) (b : Bool), cls = .ref D ∧ d = some dd ∧ H dd = some (.xd fs) ∧ xs = [.ref a, c] ∧ (∀ u, RelV c u → u = cv) ∧
  errB K D = true ∧ PySem.W.kitOne K (.ref D) cv = some b ∧ Q (.bl b) H
theorem call_isX {X : Cx} {a : Addr} {oe : Obj} {cls : Value} {d : Option Addr} {pn : List (Addr × Obj)} (hz : Zc cls d oe) (hf : ∃ vs, oe.data = .fields vs) : CallR (X.suite a ((a, oe) :: pn)) (.builtin "isinstance") (rIsX X.K a cls d) := by
  intro pins s σ H xs us Q I r h
  obtain ⟨D, dd, fs, c, cv, b, rfl, rfl, hdd, rfl, hcv, hB, hk, q⟩ := h
  obtain ⟨u, v, rfl, ru, rc⟩ := r.two
  cases ru
  cases hcv v rc
  obtain ⟨ha, _⟩ := I.pin (a, oe) (List.mem_append_left _ List.mem_cons_self)
  obtain ⟨vs, hd⟩ := hf
  have hx : ObjOk X.prog X.w H s.heap dd (.xd fs) := I.hok dd _ hdd
  obtain ⟨mA, hns, hr⟩ := hx
  obtain ⟨od, ho, hl⟩ := lookIn_ns hns
  have J : PySem.W.InstAt s.heap a oe D (some od) := ⟨ha, hz.1, by unfold PySem.W.notCls; rw [hd] <;> rfl, by rw [hz.2]; exact ho⟩
  exact PySem.W.kia_one (kit_err hB) I.kIn J hk (fun y => nomatch y) fun tk => ⟨.bl b, H, I.kept (t' := tk) fun _ _ y => y, rfl, q⟩
end Kv
/-! the data of right nets -/
namespace Kv
open PySem PySem.Spec PyProof.Rows L2
section
variable {K : PySem.W.Frag} {H : Hp}
mutual
theorem Th.dp : ∀ {d : PyData} {x : V}, Th H x d → d.hasDict = false → Dp K H x d
  | .none, _, h, _ => by cases h; exact .non
  | .bool b, _, h, _ => by cases h; exact .bl b
  | .int i, _, h, _ => by cases h; exact .int i
  | .str x, _, h, _ => by cases h; exact .str x
  | .list ds, _, h, n => by
    cases h with
    | lst ha h => exact .lst (SqL.of ha) (ThAll.dp h (by simpa [PyData.hasDict] using n))
  | .tuple ds, _, h, n => by
    cases h with
    | tup ha h hl => exact .tup (SqT.of ha) (ThAll.dp h (by simpa [PyData.hasDict] using n))
  | .dict _, _, h, n => by simp [PyData.hasDict] at n
theorem ThAll.dp : ∀ {ds : List PyData} {vs : List V}, ThAll H vs ds → PyData.hasDictAll ds = false → DpAll K H vs ds
  | [], _, h, _ => by cases h; exact .nil
  | d :: ds, _, h, n => by
    cases h with
    | cons h1 h2 =>
      simp only [PyData.hasDictAll, Bool.or_eq_false_iff] at n
      exact .cons (Th.dp h1 n.1) (ThAll.dp h2 n.2)
end
end
/-- data without dicts, not deep, short, of small numbers -/
structure Neat (n w : Nat) (d : PyData) : Prop where
  nd : d.hasDict = false
  sh : d.showable = true
  cl : d.canLay0 = true
  dp : d.depth ≤ n
  wt : d.weight ≤ w
  lv : d.leavesShort 13 = true
theorem Neat.mono {n m w z : Nat} {d : PyData} (h : Neat n w d) (h1 : n ≤ m) (h2 : w ≤ z) : Neat m z d := ⟨h.nd, h.sh, h.cl, Nat.le_trans h.dp h1, Nat.le_trans h.wt h2, h.lv⟩
theorem small : ∀ n < 101, (PyData.showable (.int (n : Nat)) && (PyData.leavesShort 13 (.int (n : Nat)) && decide (PyData.weight (.int (n : Nat)) ≤ 20))) = true := by decide +kernel
theorem neatInt {i : Int} (h0 : 0 ≤ i) (h1 : i ≤ 100) : Neat 0 20 (.int i) := by
  have e : i = ((i.toNat : Nat) : Int) := by omega
  have h := small i.toNat (by omega)
  rw [← e, Bool.and_eq_true, Bool.and_eq_true, decide_eq_true_eq] at h
  exact ⟨rfl, h.1, rfl, Nat.le_refl _, h.2.2, h.2.1⟩
/-- all of a list -/
structure NeatAll (n w : Nat) (ds : List PyData) : Prop where
  nd : PyData.hasDictAll ds = false
  sh : PyData.showableAll ds = true
  cl : PyData.canLayAll0 ds = true
  dp : PyData.depthAll ds ≤ n
  wt : PyData.weightAll ds ≤ w
  lv : PyData.leavesShortAll 13 ds = true
theorem NeatAll.nil {n w : Nat} : NeatAll n w [] := ⟨rfl, rfl, rfl, Nat.zero_le _, Nat.zero_le _, rfl⟩
theorem NeatAll.cons {n w z : Nat} {d : PyData} {ds : List PyData} (h : Neat n w d) (t : NeatAll n z ds) : NeatAll n (w + 1 + z) (d :: ds) := by
  refine ⟨?_, ?_, ?_, ?_, ?_, ?_⟩
  · simp only [PyData.hasDictAll, h.nd, t.nd, Bool.or_false]
  · simp only [PyData.showableAll, h.sh, t.sh, Bool.and_true]
  · simp only [PyData.canLayAll0, h.cl, t.cl, Bool.and_true]
  · have := h.dp
    have := t.dp
    simp only [PyData.depthAll]
    omega
  · have := h.wt
    have := t.wt
    simp only [PyData.weightAll]
    omega
  · simp only [PyData.leavesShortAll, h.lv, t.lv, Bool.and_true]
theorem NeatAll.tup {n w : Nat} {ds : List PyData} (h : NeatAll n w ds) : Neat (n + 1) w (.tuple ds) := by
  refine ⟨?_, ?_, ?_, ?_, ?_, ?_⟩
  · simp only [PyData.hasDict, h.nd]
  · simp only [PyData.showable, h.sh]
  · simp only [PyData.canLay0, h.cl]
  · have := h.dp
    simp only [PyData.depth]
    omega
  · have := h.wt
    simp only [PyData.weight]
    omega
  · simp only [PyData.leavesShort, h.lv]
theorem Neat.shaped {n w : Nat} {d : PyData} (h : Neat n w d) (hn : n ≤ 60) : SeqAt.shaped d = true := by
  unfold SeqAt.shaped
  rw [h.cl, Bool.true_and]
  exact decide_eq_true (by have := h.dp; omega)
theorem Neat.shows {n w : Nat} {K : PySem.W.Frag} {H : Hp} {d : PyData} {v : V} (h : Neat n w d) (hn : n ≤ 60) (hw : w ≤ 100000) (hd : Th H v d) : Shows K H v d.shown :=
  Or.inl ⟨d, hd.dp h.nd, h.nd, h.sh, Nat.le_trans h.dp hn, PyData.shown_fits (B := 13) (by decide) (by decide) h.lv (by have := h.wt; omega), rfl⟩
theorem isPr_inv {d : PyData} {m : Int} (h : isPr d m = true) : ∃ i j, d = .tuple [.int i, .int j] ∧ 0 ≤ i ∧ i ≤ m - 1 ∧ 0 ≤ j ∧ j ≤ m - 1 := by
  unfold isPr at h
  split at h
  · rename_i a b
    rw [Bool.and_eq_true, Bool.and_eq_true] at h
    obtain ⟨i, rfl, i0, i1⟩ := isBt_int h.1
    obtain ⟨j, rfl, j0, j1⟩ := isBt_int h.2.1
    exact ⟨i, j, rfl, i0, i1, j0, j1⟩
  · cases h
theorem neatPr {d : PyData} {m : Int} (hm : m ≤ 10) (h : isPr d m = true) : Neat 1 42 d := by
  obtain ⟨i, j, rfl, i0, i1, j0, j1⟩ := isPr_inv h
  exact (NeatAll.cons (neatInt i0 (by omega)) (NeatAll.cons (neatInt j0 (by omega)) NeatAll.nil (w := 20) (z := 0))).tup
theorem neatPrs {m : Int} (hm : m ≤ 10) : ∀ {ds : List PyData}, (∀ d ∈ ds, isPr d m = true) → NeatAll 1 (43 * ds.length) ds
  | [], _ => NeatAll.nil
  | d :: ds, h => by
    have a := NeatAll.cons (neatPr hm (h d List.mem_cons_self)) (neatPrs hm fun e he => h e (List.mem_cons_of_mem _ he))
    have e : 42 + 1 + 43 * ds.length = 43 * (d :: ds).length := by rw [List.length_cons]; omega
    rw [e] at a
    exact a
theorem firstBad_none {m : Int} : ∀ {ds : List PyData} {i : Nat}, firstBad m ds i = none → ∀ d ∈ ds, isPr d m = true
  | [], _, _, d, hd => nomatch hd
  | e :: ds, i, h, d, hd => by
    unfold firstBad at h
    cases hp : isPr e m with
    | false =>
      rw [hp] at h
      cases h
    | true =>
      rw [hp] at h
      rcases List.mem_cons.mp hd with z | z
      · rw [z]; exact hp
      · exact firstBad_none (ds := ds) h d z
/-- the parts of a right net, as data -/
structure Right (m r : Int) (ds : List PyData) : Prop where
  m0 : 2 ≤ m
  m1 : m ≤ 10
  r0 : 0 ≤ r
  r1 : r < m
  len : ds.length ≤ 60
  pr : ∀ d ∈ ds, isPr d m = true
theorem wv_inv {dx dy dz : PyData} (h : wrongV dx dy dz = .non) : ∃ m r ds, dx = .int m ∧ dy = .int r ∧ dz = .tuple ds ∧ Right m r ds := by
  unfold wrongV at h
  split at h
  · rename_i h1
    obtain ⟨m, rfl, m0, m1⟩ := isBt_int h1
    dsimp only at h
    split at h
    · rename_i h2
      obtain ⟨r, rfl, r0, r1⟩ := isBt_int h2
      split at h
      · rename_i ds
        split at h
        · cases h
        · rename_i h3
          split at h
          · cases h
          · rename_i h4
            exact ⟨m, r, ds, rfl, rfl, rfl, m0, m1, r0, by omega, by omega, firstBad_none h4⟩
      · cases h
    · cases h
  · cases h
theorem firstBad_of {m : Int} : ∀ {ds : List PyData} {i : Nat}, (∀ d ∈ ds, isPr d m = true) → firstBad m ds i = none
  | [], _, _ => rfl
  | e :: ds, i, h => by
    unfold firstBad
    rw [if_pos (h e List.mem_cons_self)]
    exact firstBad_of fun d hd => h d (List.mem_cons_of_mem _ hd)
theorem Right.wv {m r : Int} {ds : List PyData} (h : Right m r ds) : wrongV (.int m) (.int r) (.tuple ds) = .non := by
  refine wv_none ?_ ?_ (by have := h.len; omega) (firstBad_of h.pr)
  · show (decide (2 ≤ m) && decide (m ≤ 10)) = true
    rw [decide_eq_true h.m0, decide_eq_true h.m1]
    rfl
  · show (decide (0 ≤ r) && decide (r ≤ m - 1)) = true
    rw [decide_eq_true h.r0, decide_eq_true (show r ≤ m - 1 by have := h.r1; omega)]
    rfl
theorem Right.neatL {m r : Int} {ds : List PyData} (h : Right m r ds) : Neat 2 2600 (.tuple ds) := ((neatPrs h.m1 h.pr).tup).mono (Nat.le_refl _) (by have := h.len; omega)
theorem Right.neat {m r : Int} {ds : List PyData} (h : Right m r ds) : Neat 3 2700 (.tuple [.int m, .int r, .tuple ds]) := by
  have a := neatInt (i := m) (by have := h.m0; omega) (by have := h.m1; omega)
  have b := neatInt (i := r) h.r0 (by have := h.m1; have := h.r1; omega)
  exact ((NeatAll.cons (a.mono (Nat.zero_le 2) (Nat.le_refl _)) (NeatAll.cons (b.mono (Nat.zero_le 2) (Nat.le_refl _)) (NeatAll.cons h.neatL NeatAll.nil (z := 0)))).tup).mono (Nat.le_refl _) (by decide)
mutual
theorem eqv_self : ∀ d : PyData, d.hasDict = false → PyData.eqv d d = true
  | .none, _ => rfl
  | .bool b, _ => by simp [PyData.eqv]
  | .int i, _ => by simp [PyData.eqv]
  | .str x, _ => by simp [PyData.eqv]
  | .list ds, h => by simpa [PyData.eqv] using eqvAll_self ds (by simpa [PyData.hasDict] using h)
  | .tuple ds, h => by simpa [PyData.eqv] using eqvAll_self ds (by simpa [PyData.hasDict] using h)
  | .dict _, h => by simp [PyData.hasDict] at h
theorem eqvAll_self : ∀ ds : List PyData, PyData.hasDictAll ds = false → PyData.eqvAll ds ds = true
  | [], _ => rfl
  | d :: ds, h => by
    simp only [PyData.hasDictAll, Bool.or_eq_false_iff] at h
    simp only [PyData.eqvAll, eqv_self d h.1, eqvAll_self ds h.2, Bool.and_true]
end
end Kv
/-! == and != of an instance with its own == -/
namespace Kv
open PySem PySem.Spec PyProof.Rows L2
theorem ne_bind (self : Value) : bindSpecial (.builtin "object.__ne__") self = pure (.builtin "object.__ne__", [self]) := F.cmp_object.ne.bind self
section
variable {prog : Program} {w : World} {A : Around} {E : Value → Shared → Prop} {s : Shared} {K : PySem.W.Frag} {x C f : Addr} {ox : Obj} {od : Option Obj} {b : Value}
theorem check_ne {M : Model} {Q : Unit → Shared → Prop} (X : K.In s.heap) (I : PySem.W.InstAt s.heap x ox C od) (hm : PySem.W.mroIn K C (.type "object") = some true) (hq : Q () s) :
    wpAny M A (checkBuiltinCall "object.__ne__" ⟨[.ref x, b], []⟩) Q E s := by
  simp only [checkBuiltinCall, F.cmpKind_ne, F.cmpSplit_ne]
  have ha := F.cmpArgs_ne (.ref x) b
  have inst : ∀ {Q2 : Bool → Shared → Prop}, Q2 true s → wpAny M A (isInstance (.ref x) (.type "object")) Q2 E s := fun q => by
    unfold isInstance
    exact wpAny_bind (I.type.here ((PySem.W.looks_mroIn X hm).here q))
  refine wpAny_bind (inst ?_)
  repeat wp_step
  cases hsig : Manifest.signature? "object.__ne__" with
  | none => first | exact hq | exact wpAny_pure hq
  | some sig =>
    simp only [argsOk, hsig] at ha
    have h2 : Bind.checkArgs "object.__ne__" sig ⟨[.ref x, b], []⟩ = pure () := ha
    first
      | exact hq
      | (show wpAny M A (Bind.checkArgs "object.__ne__" sig ⟨[.ref x, b], []⟩) Q E _
         rw [h2]
         exact wpAny_pure hq)
theorem ifBound_ne {M : Model} {Q : Option Value → Shared → Prop} (X : K.In s.heap) (I : PySem.W.InstAt s.heap x ox C od) (hs : PySem.W.findIn K (.ref C) "__ne__" = some (some (.builtin "object.__ne__")))
    (h : wpAny M A (call (.builtin "object.__ne__") [.ref x, b]) (fun v => Q (some v)) E s) : wpAny M A (callSpecialIfBound? (.ref x) "__ne__" [b]) Q E s := by
  simp only [callSpecialIfBound?, bindSpecialIfBound?]
  refine wpAny_holding (wpAny_bind (wpAny_bind (wpAny_bind (I.type.here ((PySem.W.looks_findIn X hs).here ?_)))))
  simp only [ne_bind]
  refine wpAny_bind (wpAny_askSetting (wpAny_ite ?_))
  have fin : wpAny M A (call (.builtin "object.__ne__") ([.ref x] ++ [b]) >>= fun v => pure (some v)) Q E s := wpAny_bind (wpAny_mono h (fun v s' h' => wpAny_pure h') fun _ _ h' => h')
  split
  · exact wpAny_bind (wpAny_pure (wpAny_pure (by exact fin)))
  · exact wpAny_tryCatch (wpAny_bind (wpAny_pure (wpAny_pure (by exact fin))))
/-- the builtin: not what == says -/
theorem body_ne {Q : Fin → Shared → Prop} (hu : A.units < cLine) (X : K.In s.heap) (I : PySem.W.InstAt s.heap x ox C od) (hs : PySem.W.findIn K (.ref C) "__eq__" = some (some (.ref f))) (hf : PySem.W.isFn K (.ref f) = true)
    (h : wpAny (model prog w) A (call (.ref f) [.ref x, b]) (fun v s' => ∃ r, v = .bool r ∧ Q (.done (.ret (.bool (!r)))) s') E s) :
    wpAny (model prog w) A (Builtin.«object.__ne__» ⟨[.ref x, b], []⟩) Q E s := by
  unfold Builtin.«object.__ne__»
  repeat (first
    | with_reducible refine wpAny_cRoomFor hu ?_
    | (refine wpAny_bind (m := callSpecialIfBound? (.ref x) (Str.ofString "__eq__") [b])
        (PySem.W.ifBound_K X I hs hf (wpAny_mono h (fun r s' hr => by
          obtain ⟨r, rfl, hq⟩ := hr
          repeat (first | exact hq | exact wpAny_pure hq | exact wpAny_truthy_bool hq | (refine wpAny_bind (m := truthy (.bool _)) (wpAny_truthy_bool ?_)) | wp_step)) fun _ _ e => e)))
    | wp_step)
theorem try_ne {Q : Option Value → Shared → Prop} (hu : A.units + 1 < cLine) (X : K.In s.heap) (I : PySem.W.InstAt s.heap x ox C od) (hm : PySem.W.mroIn K C (.type "object") = some true)
    (hn : PySem.W.findIn K (.ref C) "__ne__" = some (some (.builtin "object.__ne__"))) (hs : PySem.W.findIn K (.ref C) "__eq__" = some (some (.ref f))) (hf : PySem.W.isFn K (.ref f) = true)
    (h : wpAny (model prog w) A.in1 (call (.ref f) [.ref x, b]) (fun v s' => ∃ r, v = .bool r ∧ Q (some (.bool (!r))) s') E s) : wpAny (model prog w) A (tryCompare (.ref x) "__ne__" b) Q E s := by
  unfold tryCompare
  refine wpAny_bind (ifBound_ne X I hn (wpAny_call (codeAny_call_builtin F.cmp_object.ne.plain F.cmpEntry_ne (check_ne X I hm (body_ne (A := A.in1) hu X I hs hf (wpAny_mono h (fun v s' hv => ?_) fun _ _ e => e))))))
  obtain ⟨r, rfl, hq⟩ := hv
  first | exact ⟨r, rfl, wpAny_pure hq⟩ | exact ⟨r, rfl, wpAny_pure (wpAny_pure hq)⟩ | exact ⟨r, rfl, hq⟩
theorem rich_ne {tb : Value} {Q : Value → Shared → Prop} (hu : A.units + 1 < cLine) (X : K.In s.heap) (I : PySem.W.InstAt s.heap x ox C od) (hb : PySem.W.Looks (model prog w) s.heap (typeOf b) tb) (h1 : PySem.W.notFirst K C tb = true) (hm : PySem.W.mroIn K C (.type "object") = some true)
    (hn : PySem.W.findIn K (.ref C) "__ne__" = some (some (.builtin "object.__ne__"))) (hs : PySem.W.findIn K (.ref C) "__eq__" = some (some (.ref f))) (hf : PySem.W.isFn K (.ref f) = true)
    (h : wpAny (model prog w) A.in1 (call (.ref f) [.ref x, b]) (fun v s' => ∃ r, v = .bool r ∧ Q (.bool (!r)) s') E s) : wpAny (model prog w) A (richCompare .NotEq (.ref x) b) Q E s := by
  have one : wpAny (model prog w) A (tryCompare (.ref x) "__ne__" b) (fun r s' => ∃ v, r = some v ∧ Q v s') E s :=
    try_ne hu X I hm hn hs hf (wpAny_mono h (fun v s' hv => by
      obtain ⟨r, rfl, hq⟩ := hv
      exact ⟨r, rfl, _, rfl, hq⟩) fun _ _ e => e)
  unfold richCompare
  simp only [oneThing_ref]
  refine wpAny_holding (wpAny_bind (wpAny_cRoomFor (Nat.lt_of_succ_lt hu) ?_))
  rw [cmpInfo_NotEq]
  dsimp only
  refine wpAny_bind (I.type.here (wpAny_bind (hb.here ?_)))
  split
  · rename_i q
    have e : PySem.W.subIn K tb (.ref C) = some false := by
      rcases Bool.or_eq_true_iff.mp h1 with e | e
      · rw [beq_iff_eq.mp e] at q; simp at q
      · exact beq_iff_eq.mp e
    refine wpAny_bind ((PySem.W.looks_subIn X e).here ?_)
    simp only [Bool.false_eq_true, if_false]
    refine wpAny_bind (wpAny_mono one (fun r s' z => ?_) fun _ _ e => e)
    obtain ⟨v, rfl, hq⟩ := z
    exact wpAny_pure hq
  · refine wpAny_bind (wpAny_pure ?_)
    simp only [Bool.false_eq_true, if_false]
    refine wpAny_bind (wpAny_mono one (fun r s' z => ?_) fun _ _ e => e)
    obtain ⟨v, rfl, hq⟩ := z
    exact wpAny_pure hq
end
end Kv
namespace Kv
open PySem PySem.Spec PyProof.Rows L2
section
variable {X : Cx} {C g : Addr} {n : Nat} {fd : FuncData} {ps : List Str} {sp : Sp}
def rEqO (K : PySem.W.Frag) (C : Addr) (sp : Sp) : R2 := fun x y H Q => ∃ a dx fs tb, x = .ref a ∧ H a = some (.ins C dx fs) ∧ TyX K H y tb ∧ PySem.W.notFirst K C tb = true ∧ sp [x, y] H Q E0
def rNeO (K : PySem.W.Frag) (C : Addr) (sp : Sp) : R2 := fun x y H Q => ∃ a dx fs tb, x = .ref a ∧ H a = some (.ins C dx fs) ∧ TyX K H y tb ∧ PySem.W.notFirst K C tb = true ∧ sp [x, y] H (fun v H2 => ∃ r, v = .bl r ∧ Q (.bl (!r)) H2) E0
theorem op_eqO (hs : PySem.W.findIn X.K (.ref C) "__eq__" = some (some (.ref g))) (hf : PySem.W.isFn X.K (.ref g) = true) (F : FnOk X.prog X.w X.K X.mg X.base CX0 n g fd ps sp) (hb : Binds X.K fd ps []) (hr : Room n X.A) : OpR X (compareOp .Eq) (rEqO X.K C sp) := by
  intro pins s σ H x y v u Q I rx ry h
  obtain ⟨a, dx, fs, tb, rfl, ea, ty, hn, q⟩ := h
  cases (show v = Value.ref a from rx)
  obtain ⟨mA, O, _⟩ := ins_get I.hok ea
  obtain ⟨od, J, _⟩ := O.look
  obtain ⟨Pz, Z, p, _⟩ := kit_of I ry ty
  obtain ⟨m, hF⟩ := I.fr
  show wpAny (model X.prog X.w) X.A (richCompare .Eq (.ref a) u) _ _ _
  refine PySem.W.cmp_K (op := .Eq) hr.units0 hF I.ok.mod.kin J (Z.ty _ _ I.kIn p) hn hs hf ?_
  refine wpAny_mono (run_fn (us := [.ref a, u]) (vs := [.ref a, y]) F hr hb .nil pass0 I (.cons rfl (.cons ry .nil)) q) (fun w s' z => ?_) fun _ _ x => x
  obtain ⟨z', H', I', rz, qz⟩ := z
  exact SlX.cmpback rz ⟨z', H', I', rz, qz⟩
theorem op_neO (hs : PySem.W.findIn X.K (.ref C) "__eq__" = some (some (.ref g))) (hf : PySem.W.isFn X.K (.ref g) = true) (hn0 : PySem.W.findIn X.K (.ref C) "__ne__" = some (some (.builtin "object.__ne__"))) (hm : PySem.W.mroIn X.K C (.type "object") = some true)
    (F : FnOk X.prog X.w X.K X.mg X.base CX0 n g fd ps sp) (hb : Binds X.K fd ps []) (hr : Room (n + 1) X.A) : OpR X (compareOp .NotEq) (rNeO X.K C sp) := by
  intro pins s σ H x y v u Q I rx ry h
  obtain ⟨a, dx, fs, tb, rfl, ea, ty, hn, q⟩ := h
  cases (show v = Value.ref a from rx)
  obtain ⟨mA, O, _⟩ := ins_get I.hok ea
  obtain ⟨od, J, _⟩ := O.look
  obtain ⟨Pz, Z, p, _⟩ := kit_of I ry ty
  show wpAny (model X.prog X.w) X.A (richCompare .NotEq (.ref a) u) _ _ _
  have hu : X.A.units + 1 < cLine := by
    have := hr.un
    omega
  refine rich_ne hu I.kIn J (Z.ty _ _ I.kIn p) hn hm hn0 hs hf ?_
  have rel : Vals [V.ref a, y] [Value.ref a, u] := .cons rfl (.cons ry .nil)
  have cnt : ([Value.ref a, u] ++ []).length = ps.length := F.len _ _ _ _ q
  have bd := hb s [Value.ref a, u] I.kIn cnt
  rw [List.append_nil] at bd
  refine wpAny_call (codeAny_mono (F.run X.A.in1 X.stack s H ⟨[.ref a, u], []⟩ _ _ _ E0 hr.in1 I.env0.in1 bd rel q) fun r s2 z => ?_)
  rcases r with er | (_ | _ | _ | t)
  · exact z.elim
  · exact z.elim
  · exact z.elim
  · exact z.elim
  · obtain ⟨v2, H2, I2, rv, r2, e2, q2⟩ := I.after z
    subst e2
    cases rv
    exact ⟨r2, rfl, .bl (!r2), H2, I2, rfl, q2⟩
end
end Kv
namespace K01
open PySem PySem.Spec PyProof.Rows L2 Kv
def top (i : Nat) : Stmt := PySem.Challenge.pw_sparetrees_k01_nets_judged.main.body.getD i (.Pass ⟨0, 0, 0, 0⟩)
abbrev sHand : Stmt := top 16
abbrev sDraw : Stmt := top 17
abbrev sAny : Stmt := top 18
/-! ### the drawer: _law_hand, _law_draw, _law_any -/
/-- the built-ins that the law's head needs -/
structure Bt (mg : Str → Option Value) : Prop where
  len : mg "len" = none
  int : mg "int" = none
  abs : mg "abs" = none
abbrev FnP (K : PySem.W.Frag) (x : Str) (st : Stmt) (f : Addr) (fd : FuncData) : Prop := FunD K x x (defArgs st) (defBody st) (defScope st) [] [] f fd
/-- a def of the top, by its name -/
structure DnP (K : PySem.W.Frag) (mg : Str → Option Value) (x : Str) (st : Stmt) (ps : List Str) (f : Addr) (fd : FuncData) : Prop where
  F : FnP K x st f fd
  g : mg x = some (.ref f)
  b : Binds K fd ps []
/-- the drawer at a -/
def Hand (H : Hp) (a : Addr) : Prop := ∃ (c : Addr) (cells : List Int), H a = some (drw a c) ∧ H c = some (.lst (cells.map V.int))
theorem Hand.keep {H H2 : Hp} {a : Addr} (k : Same H H2) (h : Hand H a) : Hand H2 a := by
  obtain ⟨c, cells, h1, h2⟩ := h
  exact ⟨c, cells, k _ _ h1, k _ _ h2⟩
theorem sameNew {H : Hp} {p : Addr} {o : HO} (h : H p = none) : Same H (upd H p o) := fun b u e => by
  rw [upd_ne (ne_of_none e h)]
  exact e
theorem samePast {H H2 : Hp} {p : Addr} {o : HO} (s : Same H H2) (h : H2 p = none) : Same H (upd H2 p o) := s.trans (sameNew h)
/-- a change of what H does not know -/
theorem samePut {H H2 : Hp} {p : Addr} {o : HO} (s : Same H H2) (h : H p = none) : Same H (upd H2 p o) := fun b u e => by
  rw [upd_ne (ne_of_none e h)]
  exact s b u e
def spDrawC : Sp := fun vs H Q _ => ∃ (a c : Addr) (i d s t m : Int) (cells : List Int), vs = [.ref a, .int m] ∧ 0 < m ∧ m < 1073741824 ∧ 0 ≤ i ∧ H a = some (.lst (five c i d s t)) ∧ H c = some (.lst (cells.map V.int)) ∧
  ∀ r i2 d2 s2 t2, 0 ≤ r → r < m → 0 ≤ i2 → Q (.int r) (upd H a (.lst (five c i2 d2 s2 t2)))
/-- draw(hand, m): some number below m -/
def spDraw : Sp := fun vs H Q _ => ∃ (a : Addr) (m : Int), vs = [.ref a, .int m] ∧ 0 < m ∧ m < 1073741824 ∧ Hand H a ∧ ∀ r : Nat, (r : Int) < m → Q (.int r) H
/-- any(hand, some): some item -/
def spAny (K : PySem.W.Frag) : Sp := fun vs H Q _ => ∃ (a b : Addr) (xs : List V), vs = [.ref a, .ref b] ∧ Hand H a ∧ SqL K H b xs ∧ 0 < xs.length ∧ xs.length < 1073741824 ∧ ∀ (r : Nat) x, xs[r]? = some x → Q x H
/-- hand(script): a new drawer -/
def spHand (K : PySem.W.Frag) : Sp := fun vs H Q _ => ∃ (a : Addr) (ns : List Int), vs = [.ref a] ∧ SqL K H a (ns.map V.int) ∧ ns.length ≤ 63 ∧ ∀ p H2, H p = none → Same H H2 → Hand H2 p → Q (.ref p) H2
section
variable {P : Program} {w : World} {K : PySem.W.Frag} {mg : Str → Option Value} {base : Heap}
theorem rd5 {a c : Addr} {i d s t j : Int} {v : V} {σ : L2.St} {H : Hp} {Q : VK} (h0 : σ[0]? = some (some (.ref a))) (hA : H a = some (.lst (five c i d s t))) (hj : atI (five c i d s t) j = some v) (q : Q v H) : tOp (rIxL K) (tVar 0) (tC (.int j)) σ H Q :=
  ⟨_, h0, a, _, j, v, rfl, rfl, SqL.of hA, hj, q⟩
theorem wr5 {a c : Addr} {i d s t : Int} {v : V} {σ : L2.St} {H : Hp} {Q : L2.St → Hp → Prop} (j : Nat) (h0 : σ[0]? = some (some (.ref a))) (hA : H a = some (.lst (five c i d s t))) (hj : j < 5) (q : Q σ (upd H a (.lst ((five c i d s t).set j v)))) : gSub (tVar 0) (tC (.int (j : Int))) rSetL v σ H Q :=
  ⟨_, h0, a, _, (j : Int), j, rfl, rfl, hA, by
    show ixN 5 (j : Int) = some j
    unfold ixN
    rw [if_pos (by omega), if_pos (by omega)]
    simp, q⟩
theorem scDraw : FnScope ["_law_hand_here", "_law_many", "_law_cell", "_law_digit", "_law_number"] ["_law_hand_here", "_law_many"] (defScope sDraw) := ⟨rfl, rfl, rfl, by decide +kernel, rfl, by decide +kernel, by decide +kernel⟩
theorem ok_drawC {f : Addr} {fd : FuncData} (D : DnP K mg "_law_draw" sDraw ["_law_hand_here", "_law_many"] f fd) (T : Bt mg) : FnOk P w K mg base CX0 1 f fd ["_law_hand_here", "_law_many"] spDrawC := by
  refine D.F.ok scDraw (fun vs H Q E h => ?_) (fun cdv A outer s H vs Q E hr h => ?_)
  · obtain ⟨a, c, i, d, s, t, m, cells, rfl, _⟩ := h
    rfl
  · obtain ⟨a, c, i, d, sd, t, m, cells, rfl, m0, m1, i0, ha, hc, k⟩ := h
    have nca : c ≠ a := ne_of hc ha (fun z => by
      cases cells with
      | nil => cases z
      | cons y ys => cases z)
    refine ⟨_, PSs.nox (C8.pss_cut (ps_if (PW.pt (pw_and (pt_cmpR op_eq (pe_ix ix_list (pv 0) pe_int (fun _ _ => rfl)) pe_int (nomark _))
        (pw_and1 (pt_cmpR op_lt (pe_ix ix_list (pv 0) pe_int (fun _ _ => rfl)) (pe_callB call_len_seq (by rfl) T.len PySem.boot_len (pa_cons (pe_ix ix_list (pv 0) pe_int (fun _ _ => rfl)) pa_nil)) (nomark _)))))
      (pss_cons (ps_set (i := 2) scDraw.nd rfl (Or.inl rfl) (pe_ix ix_list (pe_ix ix_list (pv 0) pe_int (fun _ _ => rfl)) (pe_ix ix_list (pv 0) pe_int (fun _ _ => rfl)) (fun _ _ => rfl)))
      (pss_cons (ps_asg (pe_op op_add (pe_ix ix_list (pv 0) pe_int (fun _ _ => rfl)) pe_int) (pg_sub (pv 0) pe_int set_list))
      (pss_cons (ps_asg (pe_op op_mod (pe_callTy call_int1 (by rfl) T.int boot_int (pa_cons (pe_op op_add (pe_op op_add (pe_op op_mul (pe_ix ix_list (pv 0) pe_int (fun _ _ => rfl)) pe_int) (pv 2)) pe_int) pa_nil)) pe_int) (pg_sub (pv 0) pe_int set_list))
      (pss_one (ps_if (pt_cmpR op_ge (pv 2) (pe_op op_pow pe_int pe_int) (nomark _)) (pss_one (ps_asg (pv 2) (pg_sub (pv 0) pe_int set_list))) pss_nil))))) pss_nil)
      (pss_cons (ps_if (pt_cmpR op_gt (pe_ix ix_list (pv 0) pe_int (fun _ _ => rfl)) pe_int (nomark _))
        (pss_cons (ps_set (i := 3) scDraw.nd rfl (Or.inl rfl) (pe_op op_mod (pe_callTy call_int1 (by rfl) T.int boot_int (pa_cons (pe_ix ix_list (pv 0) pe_int (fun _ _ => rfl)) pa_nil)) (pv 1)))
        (pss_cons (ps_asg (pe_op op_fdivN (pe_ix ix_list (pv 0) pe_int (fun _ _ => rfl)) (pv 1)) (pg_sub (pv 0) pe_int set_list)) (pss_one (ps_ret (pv 3))))) pss_nil)
      (pss_cons (ps_asg (pe_op op_add (pe_ix ix_list (pv 0) pe_int (fun _ _ => rfl)) pe_int) (pg_sub (pv 0) pe_int set_list))
      (pss_cons (ps_set (i := 4) scDraw.nd rfl (Or.inl rfl) (pe_op op_mod (pe_callTy call_int1 (by rfl) T.int boot_int (pa_cons (pe_op op_mul (pe_callTy call_int1 (by rfl) T.int boot_int (pa_cons (pe_op op_add (pe_ix ix_list (pv 0) pe_int (fun _ _ => rfl)) (pe_op op_mul pe_int (pe_ix ix_list (pv 0) pe_int (fun _ _ => rfl)))) pa_nil)) pe_int) pa_nil)) pe_int))
      (pss_cons (ps_set (i := 4) scDraw.nd rfl (Or.inl rfl) (pe_op op_mod (pe_callTy call_int1 (by rfl) T.int boot_int (pa_cons (pe_op op_mul (pv 4) (pe_op op_add (pe_op op_fdiv (pv 4) pe_int) pe_int)) pa_nil)) pe_int))
      (pss_cons (ps_set (i := 4) scDraw.nd rfl (Or.inl rfl) (pe_op op_mod (pe_callTy call_int1 (by rfl) T.int boot_int (pa_cons (pe_op op_mul (pv 4) (pe_op op_add (pe_op op_fdiv (pv 4) pe_int) pe_int)) pa_nil)) pe_int))
      (pss_one (ps_ret (pe_op op_mod (pe_callTy call_int1 (by rfl) T.int boot_int (pa_cons (pe_op op_fdiv (pv 4) pe_int) pa_nil)) (pv 1)))))))))), ?_⟩
    refine ⟨fun σ' H' => ∃ (i d s t : Int) (v : Option V), 0 ≤ i ∧ σ' = [some (.ref a), some (.int m), v, none, none] ∧ H' = upd H a (.lst (five c i d s t)), ?_, ?_⟩
    · -- the first if
      have e0 : upd H a (.lst (five c i d sd t)) = H := by
        funext b
        by_cases hb : b = a
        · rw [hb, upd_same, ha]
        · rw [upd_ne hb]
      refine rd5 rfl ha rfl ⟨rfl, _, rfl, ?_⟩
      refine ite2 (fun hd => ?_) (fun hd => ⟨i, d, sd, t, none, i0, rfl, e0.symm⟩)
      refine rd5 rfl ha rfl ?_
      refine rd5 rfl ha rfl ⟨c, _, rfl, Or.inl (SqL.of hc), i, _, rfl, rfl, _, rfl, ?_⟩
      refine ite2 (fun hlt => ?_) (fun hlt => ⟨i, d, sd, t, none, i0, rfl, e0.symm⟩)
      have hlt2 : i < ((cells.map V.int).length : Int) := of_decide_eq_true hlt
      rw [List.length_map] at hlt2
      have hi : i.toNat < cells.length := by omega
      obtain ⟨cell, hcell⟩ : ∃ cell, cells[i.toNat]? = some cell := ⟨cells[i.toNat], List.getElem?_eq_getElem hi⟩
      have hat : atI (cells.map V.int) i = some (.int cell) := by
        have e : i = (i.toNat : Int) := by omega
        rw [e]
        exact atI_nat (by rw [List.getElem?_map, hcell]; rfl)
      refine rd5 rfl ha rfl ?_
      refine rd5 rfl ha rfl ⟨c, _, i, _, rfl, rfl, SqL.of hc, hat, ?_⟩
      refine rd5 rfl ha rfl ⟨i, 1, rfl, rfl, ?_⟩
      refine wr5 1 rfl ha (by decide) ?_
      refine rd5 (i := i + 1) (d := d) (s := sd) (t := t) (c := c) rfl upd_same rfl ⟨sd, 69621, rfl, rfl, Or.inr (by decide), _, rfl, _, cell, rfl, rfl, _, 11, rfl, rfl, Or.inl ⟨_, rfl, _, 2147483629, rfl, rfl, (by show (0 : Int) < 2147483629; decide), ?_⟩⟩
      refine wr5 (i := i + 1) (d := d) (s := sd) (t := t) (c := c) 3 rfl upd_same (by decide) ?_
      rw [upd_upd]
      refine ⟨_, rfl, 10, 18, rfl, rfl, ⟨by decide, by decide, by decide⟩, cell, _, rfl, rfl, _, rfl, ?_⟩
      refine ite2 (fun _ => ?_) (fun _ => ⟨i + 1, d, _, t, some (.int cell), by omega, rfl, rfl⟩)
      refine ⟨_, rfl, ?_⟩
      refine wr5 (i := i + 1) (d := d) (t := t) (c := c) 2 rfl upd_same (by decide) ?_
      rw [upd_upd]
      exact ⟨i + 1, cell, _, t, some (.int cell), by omega, rfl, rfl⟩
    · rintro σ' H' ⟨i, d, sd, t, v, i0, rfl, rfl⟩
      refine rd5 rfl upd_same rfl ⟨d, 0, rfl, rfl, _, rfl, ?_⟩
      refine ite2 (fun hd => ?_) (fun hd => ?_)
      · refine rd5 rfl upd_same rfl (Or.inl ⟨d, rfl, _, rfl, d, m, rfl, rfl, m0, ?_⟩)
        refine rd5 rfl upd_same rfl ⟨_, rfl, d, m, rfl, rfl, ⟨by omega, by omega⟩, ?_⟩
        refine wr5 2 rfl upd_same (by decide) ⟨_, rfl, ?_⟩
        rw [upd_upd]
        exact k (d % m) i _ sd t (Int.emod_nonneg _ (by omega)) (Int.emod_lt_of_pos _ m0) i0
      · refine rd5 rfl upd_same rfl ⟨t, 1, rfl, rfl, ?_⟩
        refine wr5 4 rfl upd_same (by decide) ?_
        rw [upd_upd]
        refine rd5 (i := i) (d := d) (s := sd) (t := t + 1) (c := c) rfl upd_same rfl ?_
        refine rd5 (i := i) (d := d) (s := sd) (t := t + 1) (c := c) rfl upd_same rfl ⟨7919, _, rfl, rfl, Or.inl (by decide), _, _, rfl, rfl, Or.inl ⟨_, rfl, _, 48271, rfl, rfl, Or.inr (by decide), Or.inl ⟨_, rfl, _, 2147483647, rfl, rfl, (by show (0 : Int) < 2147483647; decide), ?_⟩⟩⟩
        have small : ∀ z : Int, 0 ≤ z % 2147483647 ∧ z % 2147483647 < 2147483647 := fun z => ⟨Int.emod_nonneg _ (by decide), Int.emod_lt_of_pos _ (by decide)⟩
        refine ⟨_, rfl, _, rfl, _, 1009, rfl, rfl, ⟨by decide, by decide⟩, _, 69621, rfl, rfl, _, _, rfl, rfl, Or.inl ?_, Or.inl ⟨_, rfl, _, 2147483647, rfl, rfl, (by show (0 : Int) < 2147483647; decide), ?_⟩⟩
        · have := small ((sd + 7919 * (t + 1)) * 48271)
          omega
        refine ⟨_, rfl, _, rfl, _, 2003, rfl, rfl, ⟨by decide, by decide⟩, _, 40692, rfl, rfl, _, _, rfl, rfl, Or.inl ?_, Or.inl ⟨_, rfl, _, 2147483399, rfl, rfl, (by show (0 : Int) < 2147483399; decide), ?_⟩⟩
        · have := small ((sd + 7919 * (t + 1)) * 48271 % 2147483647 * ((sd + 7919 * (t + 1)) * 48271 % 2147483647 / 1009 + 69621))
          omega
        refine ⟨_, rfl, _, 16, rfl, rfl, ⟨by decide, by decide⟩, Or.inl ⟨_, rfl, _, rfl, _, m, rfl, rfl, m0, ?_⟩⟩
        exact k _ i d sd (t + 1) (Int.emod_nonneg _ (by omega)) (Int.emod_lt_of_pos _ m0) i0
theorem ok_draw {f : Addr} {fd : FuncData} (D : DnP K mg "_law_draw" sDraw ["_law_hand_here", "_law_many"] f fd) (T : Bt mg) : FnOk P w K mg base CX0 1 f fd ["_law_hand_here", "_law_many"] spDraw := by
  refine shut (ok_drawC D T) (fun vs H Q E h => ?_) (fun vs H Q E h => ?_)
  · obtain ⟨a, m, rfl, _⟩ := h
    rfl
  · obtain ⟨a, m, rfl, m0, m1, ⟨c, cells, ha, hc⟩, k⟩ := h
    have nca : c ≠ a := ne_of hc ha (Ne.symm drw_lst)
    refine ⟨a, c, ha, fun i d s t i0 => ⟨a, c, i, d, s, t, m, cells, rfl, m0, m1, i0, upd_same, by rw [upd_ne nca]; exact hc, fun r i2 d2 s2 t2 r0 r1 hi2 => ⟨H, i2, d2, s2, t2, hi2, by rw [upd_upd], ha, ?_⟩⟩⟩
    have e : r = (r.toNat : Int) := by omega
    rw [e]
    exact k r.toNat (by omega)
theorem scAny : FnScope ["_law_hand_here", "_law_some"] ["_law_hand_here", "_law_some"] (defScope sAny) := ⟨rfl, rfl, rfl, by decide +kernel, rfl, by decide +kernel, by decide +kernel⟩
theorem ok_any {f fD : Addr} {fd fdD : FuncData} (D : DnP K mg "_law_any" sAny ["_law_hand_here", "_law_some"] f fd) (DD : DnP K mg "_law_draw" sDraw ["_law_hand_here", "_law_many"] fD fdD) (T : Bt mg) : FnOk P w K mg base CX0 2 f fd ["_law_hand_here", "_law_some"] (spAny K) := by
  have GD : FnOk P w K mg base CX0 1 fD fdD ["_law_hand_here", "_law_many"] spDraw := ok_draw DD T
  refine D.F.ok scAny (fun vs H Q E h => ?_) (fun cdv A outer s H vs Q E hr h => ?_)
  · obtain ⟨a, b, xs, rfl, _⟩ := h
    rfl
  · obtain ⟨a, b, xs, rfl, hH, hS, l0, l1, k⟩ := h
    refine ⟨_, PSs.nox (pss_one (ps_ret (pe_ix ix_list (pv 1) (pe_call GD hr (by rfl) DD.g DD.F.kp DD.b .nil pass0 (pa_cons (pv 0) (pa_cons (pe_callB call_len_seq (by rfl) T.len PySem.boot_len (pa_cons (pv 1) pa_nil)) pa_nil))) (fun _ _ => rfl)))), ?_⟩
    refine ⟨_, rfl, _, rfl, _, rfl, b, xs, rfl, Or.inl hS, a, _, rfl, by omega, by omega, hH, fun r hr => ?_⟩
    have hrl : r < xs.length := by omega
    exact ⟨b, xs, (r : Int), xs[r], rfl, rfl, hS, atI_nat (List.getElem?_eq_getElem hrl), k r _ (List.getElem?_eq_getElem hrl)⟩
theorem mem_cutV {xs : List V} {lo hi : Option Int} {x : V} (h : x ∈ cutV xs lo hi) : x ∈ xs := List.mem_of_mem_drop (List.mem_of_mem_take h)
theorem scHand : FnScope ["_law_script", "_law_cells", "_law_cell"] ["_law_script"] (defScope sHand) := ⟨rfl, rfl, rfl, by decide +kernel, rfl, by decide +kernel, by decide +kernel⟩
def spHandC (K : PySem.W.Frag) : Sp := fun vs H Q _ => ∃ (a : Addr) (ns : List Int), vs = [.ref a] ∧ SqL K H a (ns.map V.int) ∧ ns.length ≤ 63 ∧ ∀ p c (s : Int) (cells : List Int) H2, H p = none → c ≠ p → Same H H2 → H2 p = some (.lst (five c 0 0 s 0)) → H2 c = some (.lst (cells.map V.int)) → Q (.ref p) H2
theorem ok_handC {f : Addr} {fd : FuncData} (D : DnP K mg "_law_hand" sHand ["_law_script"] f fd) (T : Bt mg) : FnOk P w K mg base CX0 1 f fd ["_law_script"] (spHandC K) := by
  refine D.F.ok scHand (fun vs H Q E h => ?_) (fun cdv A outer s H vs Q E hr h => ?_)
  · obtain ⟨a, ns, rfl, _⟩ := h
    rfl
  · obtain ⟨a, ns, rfl, hS, hlen, k⟩ := h
    refine ⟨_, PSs.nox (pss_cons (ps_setLc (i := 1) (own := [("_law_cell", 2)]) (g := gName 2) (tt := tYes) rfl scHand.nd rfl rfl (sw_true rfl rfl rfl (by decide +kernel)) (pi_list (pe_slice sl_list (pv 0) po_none (po_some pe_int)))
        (blkOk_by (N := ["_law_script", "_law_cells", "_law_cell"]) (sc := defScope sHand) (by decide +kernel)) (fun _ _ _ _ _ => pg_name (i := 2) scHand.nd rfl (Or.inl rfl)) (fun _ _ _ _ _ => pts_nil)
        (fun _ _ _ _ _ => pe_callB call_abs (by rfl) T.abs boot_abs (pa_cons (pe_callTy call_int1 (by rfl) T.int boot_int (pa_cons (pv 2) pa_nil)) pa_nil)))
      (pss_one (ps_ret (pe_lst (pa_cons (pv 1) (pa_cons pe_int (pa_cons pe_int (pa_cons (pe_op op_add pe_int (pe_callB call_len_seq (by rfl) T.len PySem.boot_len (pa_cons (pv 1) pa_nil))) (pa_cons pe_int pa_nil))))))))), ?_⟩
    refine ⟨_, rfl, 63, rfl, a, _, rfl, hS, fun p np => ?_⟩
    have itms : ∀ {i : Nat} {x : V}, (cutV (ns.map V.int) none (some 63))[i]? = some x → ∃ z, x = V.int z := fun {i x} e => by
      obtain ⟨z, _, ez⟩ := List.mem_map.mp (mem_cutV (List.mem_of_getElem? e))
      exact ⟨z, ez.symm⟩
    have len63 : (cutV (ns.map V.int) none (some 63)).length ≤ 63 := Nat.le_trans (cutV_length _ _ _) (by rw [List.length_map]; exact hlen)
    refine ⟨p, rfl, ⟨_, SqL.of upd_same⟩, fun C nC => ?_⟩
    have npC : p ≠ C := fun z => by
      rw [← z, upd_same] at nC
      cases nC
    have nC0 : H C = none := by
      rw [upd_ne npC.symm] at nC
      exact nC
    refine lc_list (K := K) (a := p) (xs := cutV (ns.map V.int) none (some 63)) (fun i H2 => Same (upd H p (.lst (cutV (ns.map V.int) none (some 63)))) H2 ∧ ∃ acc : List Int, acc.length = i ∧ H2 C = some (.lst (acc.map V.int)))
      ⟨sameNew nC, [], rfl, upd_same⟩ (fun i H2 _ h2 => SqL.of (h2.1 _ _ upd_same)) (fun i x H2 hx h2 => ?_) (fun H2 h2 => ?_)
    · obtain ⟨s2, acc, rfl, hC⟩ := h2
      obtain ⟨z, rfl⟩ := itms hx
      have hi : acc.length < 63 := Nat.lt_of_lt_of_le (List.getElem?_eq_some_iff.mp hx).1 len63
      refine ⟨rfl, ?_⟩
      refine ⟨_, rfl, Or.inl ⟨z, rfl, z, rfl, _, hC, ?_, ?_⟩⟩
      · rw [List.length_map]
        exact Nat.lt_trans hi (by decide)
      · refine ⟨samePut s2 nC, acc ++ [if z < 0 then -z else z], by simp, ?_⟩
        rw [upd_same, List.map_append]
        rfl
    · obtain ⟨s2, acc, _, hC⟩ := h2
      refine ⟨_, rfl, _, rfl, C, _, rfl, Or.inl (SqL.of hC), 1, _, rfl, rfl, (by show 5 ≤ sizeLine; decide), fun q nq => ?_⟩
      have nqC : C ≠ q := ne_of_none hC nq
      refine k q C _ acc _ ((sameNew np).trans s2 |>.free nq) nqC (((sameNew np).trans s2).trans (sameNew nq)) upd_same ?_
      rw [upd_ne nqC]
      exact hC
theorem ok_hand {f : Addr} {fd : FuncData} (D : DnP K mg "_law_hand" sHand ["_law_script"] f fd) (T : Bt mg) : FnOk P w K mg base CX0 1 f fd ["_law_script"] (spHand K) := by
  refine shutNew (ok_handC D T) (fun vs H Q E h => ?_) (fun vs H Q E h => ?_)
  · obtain ⟨a, ns, rfl, _⟩ := h
    rfl
  · obtain ⟨a, ns, rfl, hS, hlen, k⟩ := h
    refine ⟨a, ns, rfl, hS, hlen, fun p c s cells H2 np nc s2 hp hc => ⟨p, c, 0, 0, s, 0, Int.le_refl _, hp, k p _ np (samePut s2 np) ⟨c, cells, upd_same, ?_⟩⟩⟩
    rw [upd_ne nc]
    exact hc
end
end K01
namespace K01
open PySem PySem.Spec PyProof.Rows L2 Kv
abbrev sBadNet___init__ : Stmt := inClass (top 3) 0
theorem scBadNet___init__ : FnScope ["self", "part"] ["self", "part"] (defScope sBadNet___init__) := ⟨rfl, rfl, rfl, by decide +kernel, rfl, by decide +kernel, by decide +kernel⟩
abbrev sis_integer : Stmt := top 5
theorem scis_integer : FnScope ["thing"] ["thing"] (defScope sis_integer) := ⟨rfl, rfl, rfl, by decide +kernel, rfl, by decide +kernel, by decide +kernel⟩
abbrev sis_between : Stmt := top 6
theorem scis_between : FnScope ["thing", "least", "most"] ["thing", "least", "most"] (defScope sis_between) := ⟨rfl, rfl, rfl, by decide +kernel, rfl, by decide +kernel, by decide +kernel⟩
abbrev sis_unlike_pair : Stmt := top 7
theorem scis_unlike_pair : FnScope ["thing", "bound", "first", "second"] ["thing", "bound"] (defScope sis_unlike_pair) := ⟨rfl, rfl, rfl, by decide +kernel, rfl, by decide +kernel, by decide +kernel⟩
abbrev sNet___init__ : Stmt := inClass (top 12) 0
theorem scNet___init__ : FnScope ["self", "many", "root", "links", "number", "link"] ["self", "many", "root", "links"] (defScope sNet___init__) := ⟨rfl, rfl, rfl, by decide +kernel, rfl, by decide +kernel, by decide +kernel⟩
abbrev sNet___eq__ : Stmt := inClass (top 12) 1
theorem scNet___eq__ : FnScope ["self", "other"] ["self", "other"] (defScope sNet___eq__) := ⟨rfl, rfl, rfl, by decide +kernel, rfl, by decide +kernel, by decide +kernel⟩
abbrev sneed_net : Stmt := top 13
theorem scneed_net : FnScope ["thing"] ["thing"] (defScope sneed_net) := ⟨rfl, rfl, rfl, by decide +kernel, rfl, by decide +kernel, by decide +kernel⟩
abbrev severy_link : Stmt := top 14
theorem scevery_link : FnScope ["net"] ["net"] (defScope severy_link) := ⟨rfl, rfl, rfl, by decide +kernel, rfl, by decide +kernel, by decide +kernel⟩
abbrev s_law_hand : Stmt := top 16
theorem sc_law_hand : FnScope ["_law_script", "_law_cells", "_law_cell"] ["_law_script"] (defScope s_law_hand) := ⟨rfl, rfl, rfl, by decide +kernel, rfl, by decide +kernel, by decide +kernel⟩
abbrev s_law_draw : Stmt := top 17
theorem sc_law_draw : FnScope ["_law_hand_here", "_law_many", "_law_cell", "_law_digit", "_law_number"] ["_law_hand_here", "_law_many"] (defScope s_law_draw) := ⟨rfl, rfl, rfl, by decide +kernel, rfl, by decide +kernel, by decide +kernel⟩
abbrev s_law_any : Stmt := top 18
theorem sc_law_any : FnScope ["_law_hand_here", "_law_some"] ["_law_hand_here", "_law_some"] (defScope s_law_any) := ⟨rfl, rfl, rfl, by decide +kernel, rfl, by decide +kernel, by decide +kernel⟩
abbrev s_law_is_int : Stmt := top 19
theorem sc_law_is_int : FnScope ["_law_thing", "_law_least", "_law_most"] ["_law_thing", "_law_least", "_law_most"] (defScope s_law_is_int) := ⟨rfl, rfl, rfl, by decide +kernel, rfl, by decide +kernel, by decide +kernel⟩
abbrev s_law_deep : Stmt := top 20
theorem sc_law_deep : FnScope ["_law_hand_here", "_law_thing", "_law_turn"] ["_law_hand_here"] (defScope s_law_deep) := ⟨rfl, rfl, rfl, by decide +kernel, rfl, by decide +kernel, by decide +kernel⟩
abbrev s_law_odd : Stmt := top 21
theorem sc_law_odd : FnScope ["_law_hand_here", "_law_thing", "_law_odd_here"] ["_law_hand_here", "_law_thing"] (defScope s_law_odd) := ⟨rfl, rfl, rfl, by decide +kernel, rfl, by decide +kernel, by decide +kernel⟩
abbrev s_law_turned : Stmt := top 22
theorem sc_law_turned : FnScope ["_law_hand_here", "_law_things", "_law_left", "_law_found"] ["_law_hand_here", "_law_things"] (defScope s_law_turned) := ⟨rfl, rfl, rfl, by decide +kernel, rfl, by decide +kernel, by decide +kernel⟩
abbrev s_law_link : Stmt := top 23
theorem sc_law_link : FnScope ["_law_hand_here", "_law_many", "_law_one"] ["_law_hand_here", "_law_many"] (defScope s_law_link) := ⟨rfl, rfl, rfl, by decide +kernel, rfl, by decide +kernel, by decide +kernel⟩
abbrev s_law_grown_links : Stmt := top 24
theorem sc_law_grown_links : FnScope ["_law_hand_here", "_law_many", "_law_root", "_law_heard", "_law_found", "_law_place", "_law_one"] ["_law_hand_here", "_law_many", "_law_root"] (defScope s_law_grown_links) := ⟨rfl, rfl, rfl, by decide +kernel, rfl, by decide +kernel, by decide +kernel⟩
abbrev s_law_drawn : Stmt := top 25
theorem sc_law_drawn : FnScope ["_law_hand_here", "_law_most", "_law_trees", "_law_more", "_law_many", "_law_root", "_law_links", "_law_turn"] ["_law_hand_here", "_law_most", "_law_trees", "_law_more"] (defScope s_law_drawn) := ⟨rfl, rfl, rfl, by decide +kernel, rfl, by decide +kernel, by decide +kernel⟩
abbrev s_law_is : Stmt := top 26
theorem sc_law_is : FnScope ["_law_told_here", "_law_due"] ["_law_told_here", "_law_due"] (defScope s_law_is) := ⟨rfl, rfl, rfl, by decide +kernel, rfl, by decide +kernel, by decide +kernel⟩
abbrev s_law_is_link : Stmt := top 27
theorem sc_law_is_link : FnScope ["_law_many", "_law_thing", "_law_one"] ["_law_many", "_law_thing"] (defScope s_law_is_link) := ⟨rfl, rfl, rfl, by decide +kernel, rfl, by decide +kernel, by decide +kernel⟩
abbrev s_law_wrong : Stmt := top 28
theorem sc_law_wrong : FnScope ["_law_many", "_law_root", "_law_links", "_law_number", "_law_link_here"] ["_law_many", "_law_root", "_law_links"] (defScope s_law_wrong) := ⟨rfl, rfl, rfl, by decide +kernel, rfl, by decide +kernel, by decide +kernel⟩
abbrev s_law_told : Stmt := top 29
theorem sc_law_told : FnScope ["_law_many", "_law_root", "_law_links", "_law_told_here", "e"] ["_law_many", "_law_root", "_law_links"] (defScope s_law_told) := ⟨rfl, rfl, rfl, by decide +kernel, rfl, by decide +kernel, by decide +kernel⟩
abbrev s_law_bent_links : Stmt := top 30
theorem sc_law_bent_links : FnScope ["_law_hand_here", "_law_links", "_law_many", "_law_kind", "_law_more", "_law_at", "_law_odd_here"] ["_law_hand_here", "_law_links", "_law_many"] (defScope s_law_bent_links) := ⟨rfl, rfl, rfl, by decide +kernel, rfl, by decide +kernel, by decide +kernel⟩
abbrev s_law_bent : Stmt := top 31
theorem sc_law_bent : FnScope ["_law_hand_here", "_law_net", "_law_many", "_law_root", "_law_links", "_law_kind"] ["_law_hand_here", "_law_net"] (defScope s_law_bent) := ⟨rfl, rfl, rfl, by decide +kernel, rfl, by decide +kernel, by decide +kernel⟩
abbrev slaw : Stmt := top 32
theorem sclaw : FnScope ["_law_script", "_law_hand_here", "_law_turn", "_law_net", "_law_part", "_law_made", "_law_one", "_law_change", "_law_other", "_law_again", "_law_told_here", "_law_word"] ["_law_script"] (defScope slaw) := ⟨rfl, rfl, rfl, by decide +kernel, rfl, by decide +kernel, by decide +kernel⟩
/-- the defs of the text -/
structure Dn (K : PySem.W.Frag) (mg : Str → Option Value) where
  f_BadNet___init__ : Addr
  fd_BadNet___init__ : FuncData
  D_BadNet___init__ : FunD K "__init__" "BadNet.__init__" (defArgs sBadNet___init__) (defBody sBadNet___init__) (defScope sBadNet___init__) [] [] f_BadNet___init__ fd_BadNet___init__
  b_BadNet___init__ : Binds K fd_BadNet___init__ ["self", "part"] []
  f_is_integer : Addr
  fd_is_integer : FuncData
  D_is_integer : DnP K mg "is_integer" sis_integer ["thing"] f_is_integer fd_is_integer
  f_is_between : Addr
  fd_is_between : FuncData
  D_is_between : DnP K mg "is_between" sis_between ["thing", "least", "most"] f_is_between fd_is_between
  f_is_unlike_pair : Addr
  fd_is_unlike_pair : FuncData
  D_is_unlike_pair : DnP K mg "is_unlike_pair" sis_unlike_pair ["thing", "bound"] f_is_unlike_pair fd_is_unlike_pair
  f_Net___init__ : Addr
  fd_Net___init__ : FuncData
  D_Net___init__ : FunD K "__init__" "Net.__init__" (defArgs sNet___init__) (defBody sNet___init__) (defScope sNet___init__) [] [] f_Net___init__ fd_Net___init__
  b_Net___init__ : Binds K fd_Net___init__ ["self", "many", "root", "links"] []
  f_Net___eq__ : Addr
  fd_Net___eq__ : FuncData
  D_Net___eq__ : FunD K "__eq__" "Net.__eq__" (defArgs sNet___eq__) (defBody sNet___eq__) (defScope sNet___eq__) [] [] f_Net___eq__ fd_Net___eq__
  b_Net___eq__ : Binds K fd_Net___eq__ ["self", "other"] []
  f_need_net : Addr
  fd_need_net : FuncData
  D_need_net : DnP K mg "need_net" sneed_net ["thing"] f_need_net fd_need_net
  f_every_link : Addr
  fd_every_link : FuncData
  D_every_link : DnP K mg "every_link" severy_link ["net"] f_every_link fd_every_link
  f_hand : Addr
  fd_hand : FuncData
  D_hand : DnP K mg "_law_hand" s_law_hand ["_law_script"] f_hand fd_hand
  f_draw : Addr
  fd_draw : FuncData
  D_draw : DnP K mg "_law_draw" s_law_draw ["_law_hand_here", "_law_many"] f_draw fd_draw
  f_any : Addr
  fd_any : FuncData
  D_any : DnP K mg "_law_any" s_law_any ["_law_hand_here", "_law_some"] f_any fd_any
  f_is_int : Addr
  fd_is_int : FuncData
  D_is_int : DnP K mg "_law_is_int" s_law_is_int ["_law_thing", "_law_least", "_law_most"] f_is_int fd_is_int
  f_deep : Addr
  fd_deep : FuncData
  D_deep : DnP K mg "_law_deep" s_law_deep ["_law_hand_here"] f_deep fd_deep
  f_odd : Addr
  fd_odd : FuncData
  D_odd : DnP K mg "_law_odd" s_law_odd ["_law_hand_here", "_law_thing"] f_odd fd_odd
  f_turned : Addr
  fd_turned : FuncData
  D_turned : DnP K mg "_law_turned" s_law_turned ["_law_hand_here", "_law_things"] f_turned fd_turned
  f_link : Addr
  fd_link : FuncData
  D_link : DnP K mg "_law_link" s_law_link ["_law_hand_here", "_law_many"] f_link fd_link
  f_grown_links : Addr
  fd_grown_links : FuncData
  D_grown_links : DnP K mg "_law_grown_links" s_law_grown_links ["_law_hand_here", "_law_many", "_law_root"] f_grown_links fd_grown_links
  f_drawn : Addr
  fd_drawn : FuncData
  D_drawn : DnP K mg "_law_drawn" s_law_drawn ["_law_hand_here", "_law_most", "_law_trees", "_law_more"] f_drawn fd_drawn
  f_is : Addr
  fd_is : FuncData
  D_is : DnP K mg "_law_is" s_law_is ["_law_told_here", "_law_due"] f_is fd_is
  f_is_link : Addr
  fd_is_link : FuncData
  D_is_link : DnP K mg "_law_is_link" s_law_is_link ["_law_many", "_law_thing"] f_is_link fd_is_link
  f_wrong : Addr
  fd_wrong : FuncData
  D_wrong : DnP K mg "_law_wrong" s_law_wrong ["_law_many", "_law_root", "_law_links"] f_wrong fd_wrong
  f_told : Addr
  fd_told : FuncData
  D_told : DnP K mg "_law_told" s_law_told ["_law_many", "_law_root", "_law_links"] f_told fd_told
  f_bent_links : Addr
  fd_bent_links : FuncData
  D_bent_links : DnP K mg "_law_bent_links" s_law_bent_links ["_law_hand_here", "_law_links", "_law_many"] f_bent_links fd_bent_links
  f_bent : Addr
  fd_bent : FuncData
  D_bent : DnP K mg "_law_bent" s_law_bent ["_law_hand_here", "_law_net"] f_bent fd_bent
  f_law : Addr
  fd_law : FuncData
  D_law : DnP K mg "law" slaw ["_law_script"] f_law fd_law
/-! ### the nets that are drawn: _law_turned, _law_link, _law_grown_links, _law_drawn -/
structure Bn (mg : Str → Option Value) : Prop extends Bt mg where
  isi : mg "isinstance" = none
  rng : mg "range" = none
  bool : mg "bool" = none
  lst : mg "list" = none
  tup : mg "tuple" = none
  all : mg "all" = none
  enm : mg "enumerate" = none
  rep : mg "repr" = none
def spIsInt : Sp := fun vs H Q _ => ∃ (x : V) (d : PyData) (lo hi : Int), vs = [x, .int lo, .int hi] ∧ Th H x d ∧ Q (.bl (isBt d lo hi)) H
def spTurned : Sp := fun vs H Q _ => ∃ (a b : Addr) (xs : List V), vs = [.ref a, .ref b] ∧ Hand H a ∧ H b = some (.lst xs) ∧ xs.length ≤ 1000 ∧ ∀ p ys H2, H p = none → Same H H2 → H2 p = some (.lst ys) → ys.Perm xs → Q (.ref p) H2
/-- a link between places below m -/
def Lk (m : Int) (H : Hp) (v : V) : Prop := ∃ p i j, v = .ref p ∧ H p = some (.tup [.int i, .int j]) ∧ 0 ≤ i ∧ i < m ∧ 0 ≤ j ∧ j < m ∧ i ≠ j
theorem Lk.keep {m : Int} {H H2 : Hp} {v : V} (s : Same H H2) (h : Lk m H v) : Lk m H2 v := by
  obtain ⟨p, i, j, e, h1, h2⟩ := h
  exact ⟨p, i, j, e, s _ _ h1, h2⟩
def spLink : Sp := fun vs H Q _ => ∃ (a : Addr) (m : Int), vs = [.ref a, .int m] ∧ Hand H a ∧ 2 ≤ m ∧ m ≤ 10 ∧ ∀ p H2, H p = none → Same H H2 → Lk m H2 (.ref p) → Q (.ref p) H2
def spGrown : Sp := fun vs H Q _ => ∃ (a : Addr) (m r : Int), vs = [.ref a, .int m, .int r] ∧ Hand H a ∧ 2 ≤ m ∧ m ≤ 10 ∧ 0 ≤ r ∧ r < m ∧ ∀ p ws H2, H p = none → Same H H2 → H2 p = some (.lst ws) → (∀ w ∈ ws, Lk m H2 w) → ws.length ≤ 10 → Q (.ref p) H2
/-- a drawn net's parts -/
structure NetAt (H : Hp) (p : Addr) (m r : Int) (l : Addr) (ws : List V) : Prop where
  top : H p = some (.tup [.int m, .int r, .ref l])
  at_ : H l = some (.tup ws)
  m0 : 2 ≤ m
  m1 : m ≤ 10
  r0 : 0 ≤ r
  r1 : r < m
  lk : ∀ w ∈ ws, Lk m H w
  len : ws.length ≤ 60
theorem NetAt.keep {H H2 : Hp} {p : Addr} {m r : Int} {l : Addr} {ws : List V} (s : Same H H2) (h : NetAt H p m r l ws) : NetAt H2 p m r l ws := ⟨s _ _ h.top, s _ _ h.at_, h.m0, h.m1, h.r0, h.r1, fun w hw => (h.lk w hw).keep s, h.len⟩
def spDrawn : Sp := fun vs H Q _ => ∃ (a : Addr) (z t k : Int), vs = [.ref a, .int z, .int t, .int k] ∧ Hand H a ∧ 2 ≤ z ∧ z ≤ 10 ∧ 0 ≤ t ∧ t ≤ 20 ∧ 0 ≤ k ∧ k ≤ 100 ∧ ∀ p m r l ws H2, H p = none → Same H H2 → NetAt H2 p m r l ws → m ≤ z → Q (.ref p) H2
theorem other {i j m : Int} (h1 : 0 ≤ i) (h2 : i < m) (h3 : 0 ≤ j) (h4 : j < m - 1) : 0 ≤ (i + 1 + j) % m ∧ (i + 1 + j) % m < m ∧ i ≠ (i + 1 + j) % m := by
  have a := Int.emod_nonneg (i + 1 + j) (show m ≠ 0 by omega)
  have b := Int.emod_lt_of_pos (i + 1 + j) (show 0 < m by omega)
  refine ⟨a, b, ?_⟩
  by_cases h : i + 1 + j < m
  · rw [Int.emod_eq_of_lt (by omega) h]
    omega
  · rw [← Int.sub_emod_right, Int.emod_eq_of_lt (by omega) (by omega)]
    omega
def unInt : V → Int
  | .int z => z
  | _ => 0
theorem permInts {ys : List V} {acc : List Int} (h : ys.Perm (acc.map V.int)) : ∃ zs : List Int, ys = zs.map V.int ∧ zs.Perm acc := by
  refine ⟨ys.map unInt, ?_, ?_⟩
  · rw [List.map_map]
    have e : ∀ y ∈ ys, (V.int ∘ unInt) y = y := fun y hy => by
      obtain ⟨z, _, ez⟩ := List.mem_map.mp (h.mem_iff.mp hy)
      rw [← ez]
      rfl
    have e2 : ys.map (V.int ∘ unInt) = ys.map id := List.map_congr_left e
    rw [e2, List.map_id]
  · have h2 := h.map unInt
    rw [List.map_map] at h2
    have e : acc.map (unInt ∘ V.int) = acc.map id := List.map_congr_left fun z _ => rfl
    rw [e, List.map_id] at h2
    exact h2
theorem Lk.put {m : Int} {H : Hp} {v : V} {a : Addr} {xs ys : List V} (ha : H a = some (.lst xs)) (h : Lk m H v) : Lk m (upd H a (.lst ys)) v := by
  obtain ⟨p, i, j, e, h1, h2⟩ := h
  refine ⟨p, i, j, e, ?_, h2⟩
  rw [upd_ne (fun z => by rw [z, ha] at h1; cases h1)]
  exact h1
theorem cut60 (xs : List V) (n : Nat) : (cutV xs none (some (n : Int))).length ≤ n := by
  unfold cutV
  rw [List.length_take, HT.sIx_nat]
  omega
theorem takeSucc {α : Type} : ∀ (l : List α) {i : Nat} {y : α}, l[i]? = some y → l.take (i + 1) = l.take i ++ [y]
  | [], i, y, h => by simp at h
  | a :: l, 0, y, h => by
    have e : a = y := Option.some.inj h
    rw [e]
    rfl
  | a :: l, i + 1, y, h => congrArg (a :: ·) (takeSucc l (i := i) (y := y) h)
theorem notTake : ∀ {l : List Int} {i : Nat} {z : Int}, l.Nodup → l[i]? = some z → z ∉ l.take i
  | [], _, _, _, h => by simp at h
  | a :: l, 0, _, _, _ => by simp
  | a :: l, i + 1, z, hn, h => by
    have h1 : l[i]? = some z := by simpa using h
    obtain ⟨n1, n2⟩ := List.nodup_cons.mp hn
    rw [List.take_succ_cons]
    intro hz
    rcases List.mem_cons.mp hz with e | hz
    · exact n1 (e ▸ List.mem_of_getElem? h1)
    · exact notTake n2 h1 hz
theorem seqIx {r n : Nat} (h : r < n) : seqIndex? (r : Int) n = some r := by
  have h0 : ¬ ((r : Int) < 0) := by omega
  unfold seqIndex?
  simp [h0, h]
theorem permErase {α : Type} : ∀ {l : List α} {i : Nat} {y : α}, l[i]? = some y → (y :: l.eraseIdx i).Perm l
  | [], i, y, h => by simp at h
  | a :: l, 0, y, h => by
    simp at h
    subst h
    exact List.Perm.refl _
  | a :: l, i + 1, y, h => by
    rw [List.eraseIdx_cons_succ]
    exact (List.Perm.swap a y _).trans ((permErase (l := l) (by simpa using h)).cons a)
section
variable {P : Program} {w : World} {K : PySem.W.Frag} {mg : Str → Option Value} {base : Heap}
theorem ok_is_int (d : Dn K mg) (B : Bn mg) : FnOk P w K mg base CX0 1 d.f_is_int d.fd_is_int ["_law_thing", "_law_least", "_law_most"] spIsInt := by
  refine d.D_is_int.F.ok sc_law_is_int (fun vs H Q E h => ?_) (fun cdv A outer s H vs Q E hr h => ?_)
  · obtain ⟨x, dd, lo, hi, rfl, _⟩ := h
    rfl
  · obtain ⟨x, dd, lo, hi, rfl, hx, k⟩ := h
    refine ⟨_, PSs.nox ((pss_one (ps_ret (pe_and (pe_callB call_isi (by rfl) B.isi boot_isinstance (pa_cons (pv 0) (pa_cons (pe_bltn (v := .ty "int") (by rfl) B.int (by decide +kernel) rfl) pa_nil))) (pe_and (pe_not (pe_callB call_isi (by rfl) B.isi boot_isinstance (pa_cons (pv 0) (pa_cons (pe_bltn (v := .ty "bool") (by rfl) B.bool (by decide +kernel) rfl) pa_nil)))) (pe_one (pe_chain op_le op_le (pv 1) (pv 0) (pv 2)))))))), ?_⟩
    refine ⟨_, rfl, x, _, _, _, _, rfl, .ty _, hx.tyx, kit_int dd, _, rfl, ?_⟩
    cases hx with
    | non => exact iteF k
    | str y => exact iteF k
    | lst h1 h2 => exact iteF k
    | tup h1 h2 => exact iteF k
    | dic h1 => exact iteF k
    | bl b => exact iteT ⟨_, rfl, _, _, _, _, _, rfl, .ty _, (Th.bl b).tyx, kit_bool (.bool b), _, rfl, _, rfl, iteF k⟩
    | int i =>
      refine iteT ⟨_, rfl, _, _, _, _, _, rfl, .ty _, (Th.int i).tyx, kit_bool (.int i), _, rfl, _, rfl, iteT ?_⟩
      refine ⟨_, rfl, _, rfl, lo, i, rfl, rfl, _, rfl, ?_⟩
      have e : isBt (.int i) lo hi = (decide (lo ≤ i) && decide (i ≤ hi)) := rfl
      rw [e] at k
      cases hd : decide (lo ≤ i) with
      | false =>
        rw [hd] at k
        exact iteF k
      | true =>
        rw [hd] at k
        exact iteT ⟨_, rfl, i, hi, rfl, rfl, k⟩
theorem ok_turned (d : Dn K mg) (B : Bn mg) : FnOk P w K mg base CX0 2 d.f_turned d.fd_turned ["_law_hand_here", "_law_things"] spTurned := by
  have G_draw := ok_draw (P := P) (w := w) (base := base) d.D_draw B.toBt
  refine d.D_turned.F.ok sc_law_turned (fun vs H Q E h => ?_) (fun cdv A outer s H vs Q E hr h => ?_)
  · obtain ⟨a, b, xs, rfl, _⟩ := h
    rfl
  · obtain ⟨a, b, xs, rfl, hH, hb, hl, k⟩ := h
    refine ⟨_, PSs.nox ((pss_cons (ps_par (i := 2) (j := 3) rfl sc_law_turned.nd rfl rfl (by decide) rfl rfl (pa_cons (pe_callTy call_list_of (by rfl) B.lst boot_list (pa_cons (pv 1) pa_nil)) (pa_cons (pe_lst pa_nil) pa_nil)) (by rfl))
      (pss_cons (ps_while PassesOwn.never (pt_cmpR op_gt (pe_callB call_len_seq (by rfl) B.len PySem.boot_len (pa_cons (pv 2) pa_nil)) pe_int (nomark _))
      (pss_one (ps_expr (pe_bm PySem.F.plainAttrs_list PySem.F.slot_list_append PySem.F.type_list_append mt_append (pv 3) (pa_cons (pe_bm PySem.F.plainAttrs_list PySem.F.slot_list_pop PySem.F.type_list_pop mt_popAt (pv 2) (pa_cons (pe_call G_draw (hr.mono (by decide)) (by rfl) d.D_draw.g d.D_draw.F.kp d.D_draw.b .nil pass0 (pa_cons (pv 0) (pa_cons (pe_callB call_len_seq (by rfl) B.len PySem.boot_len (pa_cons (pv 2) pa_nil)) pa_nil))) pa_nil)) pa_nil)))))
      (pss_one (ps_ret (pv 3)))))), ?_⟩
    refine ⟨_, rfl, b, xs, rfl, Or.inl (SqL.of hb), fun l nl => ⟨(by show 0 ≤ sizeLine; decide), fun f nf => ⟨_, _, rfl, ?_⟩⟩⟩
    have nlf : l ≠ f := ne_of_none upd_same nf
    have s0 : Same H (upd (upd H l (.lst xs)) f (.lst [])) := samePast (sameNew nl) nf
    have nfH : H f = none := by
      rw [upd_ne (Ne.symm nlf)] at nf
      exact nf
    refine while_by (fun σ2 H2 => ∃ ls fs, σ2 = [some (.ref a), some (.ref b), some (.ref l), some (.ref f)] ∧ Same H H2 ∧ H2 l = some (.lst ls) ∧ H2 f = some (.lst fs) ∧ (fs ++ ls).Perm xs)
      (fun _ H2 => match H2 l with | some (.lst ls) => ls.length | _ => 0) ⟨xs, [], rfl, s0, by rw [upd_ne nlf, upd_same], upd_same, by rw [List.nil_append]⟩ ?_ ?_
    · rintro σ2 H2 ⟨ls, fs, rfl, s2, hl2, hf2, hp⟩
      have lens : fs.length + ls.length = xs.length := by rw [← List.length_append, hp.length_eq]
      refine ⟨_, rfl, l, ls, rfl, Or.inl (SqL.of hl2), (ls.length : Int), 0, rfl, rfl, _, rfl, ?_⟩
      refine ite2 (fun hd => ?_) (fun hd => ?_)
      · have hpos : 0 < ls.length := by
          have := of_decide_eq_true hd
          omega
        refine ⟨_, rfl, Or.inl ⟨rfl, _, SqL.of hf2⟩, _, rfl, Or.inl ⟨rfl, _, SqL.of hl2⟩, _, rfl, _, rfl, l, ls, rfl, Or.inl (SqL.of hl2), a, _, rfl, by omega, by omega, hH.keep s2, fun r hr => ?_⟩
        have hr2 : r < ls.length := by omega
        obtain ⟨y, hy⟩ : ∃ y, ls[r]? = some y := ⟨ls[r], List.getElem?_eq_getElem hr2⟩
        refine ⟨l, ls, (r : Int), r, y, rfl, rfl, hl2, by omega, by omega, seqIx hr2, hy, ?_⟩
        refine ⟨f, fs, y, rfl, rfl, by rw [upd_ne (Ne.symm nlf)]; exact hf2, Nat.lt_of_le_of_lt (show fs.length ≤ 1000 by omega) (by decide), ?_⟩
        refine ⟨⟨ls.eraseIdx r, fs ++ [y], rfl, samePut (samePut s2 nl) nfH, by rw [upd_ne nlf, upd_same], upd_same, ?_⟩, ?_⟩
        · refine List.Perm.trans ?_ hp
          rw [List.append_assoc]
          refine List.Perm.append_left fs ?_
          rw [List.singleton_append]
          exact permErase hy
        · rw [upd_ne nlf, upd_same, hl2]
          show (ls.eraseIdx r).length < ls.length
          rw [List.length_eraseIdx]
          rw [if_pos hr2]
          omega
      · have hz : ls = [] := List.eq_nil_of_length_eq_zero (by
          have : ¬ ((0 : Int) < (ls.length : Int)) := fun z => hd (decide_eq_true z)
          omega)
        subst hz
        rw [List.append_nil] at hp
        exact ⟨_, rfl, k f fs H2 nfH s2 hf2 hp⟩
    · rintro σ2 H2 Q1 Q2 hm ⟨v, h0, p, ys, e, hs, i, j, e1, e2, b2, eb, q⟩
      exact ⟨v, h0, p, ys, e, hs, i, j, e1, e2, b2, eb, hm _ _ q⟩
theorem ok_link (d : Dn K mg) (B : Bn mg) : FnOk P w K mg base CX0 2 d.f_link d.fd_link ["_law_hand_here", "_law_many"] spLink := by
  have G_draw := ok_draw (P := P) (w := w) (base := base) d.D_draw B.toBt
  refine d.D_link.F.ok sc_law_link (fun vs H Q E h => ?_) (fun cdv A outer s H vs Q E hr h => ?_)
  · obtain ⟨a, m, rfl, _⟩ := h
    rfl
  · obtain ⟨a, m, rfl, hH, m0, m1, k⟩ := h
    refine ⟨_, PSs.nox ((pss_cons (ps_set (i := 2) sc_law_link.nd rfl (Or.inl rfl) (pe_call G_draw (hr.mono (by decide)) (by rfl) d.D_draw.g d.D_draw.F.kp d.D_draw.b .nil pass0 (pa_cons (pv 0) (pa_cons (pv 1) pa_nil))))
      (pss_one (ps_ret (pe_tup (pa_cons (pv 2) (pa_cons (pe_op op_mod (pe_callTy call_int1 (by rfl) B.int boot_int (pa_cons (pe_op op_add (pe_op op_add (pv 2) pe_int) (pe_call G_draw (hr.mono (by decide)) (by rfl) d.D_draw.g d.D_draw.F.kp d.D_draw.b .nil pass0 (pa_cons (pv 0) (pa_cons (pe_op op_sub (pv 1) pe_int) pa_nil)))) pa_nil)) (pv 1)) pa_nil))))))), ?_⟩
    refine ⟨_, rfl, _, rfl, a, m, rfl, by omega, by omega, hH, fun i hi => ?_⟩
    refine ⟨_, rfl, _, rfl, _, 1, rfl, rfl, _, rfl, _, rfl, m, 1, rfl, rfl, a, m - 1, rfl, by omega, by omega, hH, fun j hj => ?_⟩
    refine ⟨_, _, rfl, rfl, Or.inl ⟨_, rfl, _, rfl, _, m, rfl, rfl, by omega, (by show 2 ≤ sizeLine; decide), fun p np => ?_⟩⟩
    obtain ⟨x0, x1, x2⟩ := other (i := (i : Int)) (j := (j : Int)) (m := m) (by omega) (by omega) (by omega) (by omega)
    exact k p _ np (sameNew np) ⟨p, _, _, rfl, upd_same, by omega, by omega, x0, x1, x2⟩
theorem ok_grown (d : Dn K mg) (B : Bn mg) : FnOk P w K mg base CX0 3 d.f_grown_links d.fd_grown_links ["_law_hand_here", "_law_many", "_law_root"] spGrown := by
  have G_any := ok_any (P := P) (w := w) (base := base) d.D_any d.D_draw B.toBt
  have G_turned := ok_turned (P := P) (w := w) (base := base) d B
  refine d.D_grown_links.F.ok sc_law_grown_links (fun vs H Q E h => ?_) (fun cdv A outer s H vs Q E hr h => ?_)
  · obtain ⟨a, m, r, rfl, _⟩ := h
    rfl
  · obtain ⟨a, m, r, rfl, hH, m0, m1, r0, r1, k⟩ := h
    refine ⟨_, PSs.nox ((pss_cons (ps_par (i := 3) (j := 4) rfl sc_law_grown_links.nd rfl rfl (by decide) rfl rfl (pa_cons (pe_lst (pa_cons (pv 2) pa_nil)) (pa_cons (pe_lst pa_nil) pa_nil)) (by rfl))
      (pss_cons (ps_for PassesOwn.never rfl (pi_list (pe_call G_turned (hr.mono (by decide)) (by rfl) d.D_turned.g d.D_turned.F.kp d.D_turned.b .nil pass0 (pa_cons (pv 0) (pa_cons (pe_lc (own := [("_law_one", 6)]) (g := gName 6) (tt := tTest (tOp rNe (tVar 6) (tVar 2))) (te := tVar 6) rfl sc_law_grown_links.nd (pi_range1 (by rfl) B.rng (pa_cons (pv 1) pa_nil))
        (blkOk_by (N := ["_law_hand_here", "_law_many", "_law_root", "_law_heard", "_law_found", "_law_place", "_law_one"]) (sc := defScope s_law_grown_links) (by decide +kernel)) (fun _ _ _ _ _ => pg_name (i := 6) sc_law_grown_links.nd rfl (Or.inl rfl)) (fun _ _ _ _ _ => (pts_one (pt_cmpR op_ne (pv 6) (pv 2) (nomark _))))
        (fun _ _ _ _ _ => (pv 6))) pa_nil)))) (pg_name (i := 5) sc_law_grown_links.nd rfl (Or.inl rfl))
      (pss_cons (ps_expr (pe_bm PySem.F.plainAttrs_list PySem.F.slot_list_append PySem.F.type_list_append mt_append (pv 4) (pa_cons (pe_tup (pa_cons (pe_call G_any (hr.mono (by decide)) (by rfl) d.D_any.g d.D_any.F.kp d.D_any.b .nil pass0 (pa_cons (pv 0) (pa_cons (pv 3) pa_nil))) (pa_cons (pv 5) pa_nil))) pa_nil)))
      (pss_one (ps_expr (pe_bm PySem.F.plainAttrs_list PySem.F.slot_list_append PySem.F.type_list_append mt_append (pv 3) (pa_cons (pv 5) pa_nil))))))
      (pss_one (ps_ret (pv 4)))))), ?_⟩
    refine ⟨_, rfl, (by show 1 ≤ sizeLine; decide), fun l1 n1 => ⟨(by show 0 ≤ sizeLine; decide), fun l2 n2 => ⟨_, _, rfl, ?_⟩⟩⟩
    have n12 : l1 ≠ l2 := ne_of_none upd_same n2
    have n2H : H l2 = none := by
      rw [upd_ne (Ne.symm n12)] at n2
      exact n2
    have s0 : Same H (upd (upd H l1 (.lst [.int r])) l2 (.lst [])) := samePast (sameNew n1) n2
    refine ⟨_, rfl, _, rfl, m, rfl, by omega, by omega, fun C nC => lc_range (lo := 0) (n := m.toNat) (fun i H3 => Same (upd (upd H l1 (.lst [.int r])) l2 (.lst [])) H3 ∧ ∃ acc : List Int, H3 C = some (.lst (acc.map V.int)) ∧ acc.length ≤ i ∧ (∀ z ∈ acc, 0 ≤ z ∧ z < i ∧ z ≠ r) ∧ acc.Nodup)
      ⟨sameNew nC, [], upd_same, Nat.le_refl _, fun z hz => (nomatch hz), List.nodup_nil⟩ (fun i H3 hi h3 => ?_) (fun H3 h3 => ?_)⟩
    · obtain ⟨s3, acc, hC, hl, hz, hnd⟩ := h3
      refine ⟨rfl, _, rfl, _, rfl, rfl, _, rfl, ?_⟩
      refine ite2 (fun hne => ⟨_, rfl, _, hC, ?_, samePut s3 nC, acc ++ [0 + (i : Int)], by rw [upd_same, List.map_append]; rfl, ?_, ?_, ?_⟩) (fun hne => ⟨s3, acc, hC, by omega, fun z hz2 => ?_, hnd⟩)
      · rw [List.length_map]
        exact Nat.lt_of_le_of_lt (show acc.length ≤ 10 by omega) (by decide)
      · rw [List.length_append]
        show acc.length + 1 ≤ i + 1
        omega
      · intro z hz2
        rcases List.mem_append.mp hz2 with hz2 | hz2
        · obtain ⟨y1, y2, y3⟩ := hz z hz2
          exact ⟨y1, by omega, y3⟩
        · have ez : z = 0 + (i : Int) := List.mem_singleton.mp hz2
          refine ⟨by omega, by omega, fun er => ?_⟩
          rw [← ez, er] at hne
          simp at hne
      · refine List.nodup_append.mpr ⟨hnd, by simp, fun y hy z hz2 => ?_⟩
        have ez : z = 0 + (i : Int) := List.mem_singleton.mp hz2
        have := (hz y hy).2.1
        omega
      · obtain ⟨y1, y2, y3⟩ := hz z hz2
        exact ⟨y1, by omega, y3⟩
    · obtain ⟨s3, acc, hC, hl, hz, hnd⟩ := h3
      have s03 := s0.trans s3
      refine ⟨a, C, _, rfl, hH.keep s03, hC, ?_, fun p ys H4 np s4 hp perm => ?_⟩
      · rw [List.length_map]
        omega
      obtain ⟨zs, rfl, pz⟩ := permInts perm
      have zin : ∀ z ∈ zs, 0 ≤ z ∧ z < m ∧ z ≠ r := fun z hz2 => by
        obtain ⟨y1, y2, y3⟩ := hz z (pz.mem_iff.mp hz2)
        exact ⟨y1, by omega, y3⟩
      have znd : zs.Nodup := pz.nodup_iff.mpr hnd
      have zlen : zs.length ≤ 10 := by
        rw [pz.length_eq]
        omega
      have s14 := s3.trans s4
      have h1 : H4 l1 = some (.lst [.int r]) := s14 _ _ (by rw [upd_ne n12, upd_same])
      have h2 : H4 l2 = some (.lst []) := s14 _ _ upd_same
      have np1 : p ≠ l1 := fun z => by rw [z, s3 _ _ (by rw [upd_ne n12, upd_same])] at np; cases np
      have np2 : p ≠ l2 := fun z => by rw [z, s3 _ _ upd_same] at np; cases np
      refine ⟨p, rfl, ⟨_, SqL.of hp⟩, for_list (K := K) (a := p) (xs := zs.map V.int) (fun i σ2 H5 => ∃ (v5 v6 : Option V) (ws : List V), σ2 = [some (.ref a), some (.int m), some (.int r), some (.ref l1), some (.ref l2), v5, v6] ∧ Same H H5 ∧ H5 p = some (.lst (zs.map V.int)) ∧
        H5 l1 = some (.lst ((r :: zs.take i).map V.int)) ∧ H5 l2 = some (.lst ws) ∧ ws.length = i ∧ ∀ w ∈ ws, Lk m H5 w) ⟨_, _, [], rfl, s0.trans s14, hp, h1, h2, rfl, fun w hw => (nomatch hw)⟩ (fun i σ2 H5 _ h5 => ?_) ?_ ?_⟩
      · obtain ⟨_, _, _, _, _, h5, _⟩ := h5
        exact SqL.of h5
      · rintro i x σ2 H5 hx ⟨v5, v6, ws, rfl, s5, hp5, h15, h25, hwl, hlk⟩
        rw [List.getElem?_map] at hx
        obtain ⟨z, hz5, rfl⟩ := Option.map_eq_some_iff.mp hx
        have hi : i < zs.length := (List.getElem?_eq_some_iff.mp hz5).1
        have zm : z ∈ zs := List.mem_of_getElem? hz5
        refine ⟨_, rfl, Or.inl ⟨rfl, _, SqL.of h25⟩, _, rfl, _, rfl, a, l1, _, rfl, hH.keep s5, SqL.of h15, (by rw [List.length_map, List.length_cons]; omega), ?_, fun rr x hx => ?_⟩
        · rw [List.length_map, List.length_cons, List.length_take]
          omega
        rw [List.getElem?_map] at hx
        obtain ⟨y, hy, rfl⟩ := Option.map_eq_some_iff.mp hx
        have ym : 0 ≤ y ∧ y < m ∧ y ≠ z := by
          rcases List.mem_cons.mp (List.mem_of_getElem? hy) with e | hy2
          · rw [e]
            exact ⟨r0, r1, Ne.symm (zin z zm).2.2⟩
          · obtain ⟨y1, y2, _⟩ := zin y (List.mem_of_mem_take hy2)
            exact ⟨y1, y2, fun e => notTake znd hz5 (e ▸ hy2)⟩
        refine ⟨_, rfl, (by show 2 ≤ sizeLine; decide), fun q nq => ?_⟩
        have sq := sameNew (o := HO.tup [.int y, .int z]) nq
        have h25q := sq _ _ h25
        have h15q := sq _ _ h15
        refine ⟨l2, ws, .ref q, rfl, rfl, h25q, Nat.lt_of_le_of_lt (show ws.length ≤ 10 by omega) (by decide), ?_⟩
        have h15p : upd (upd H5 q (.tup [.int y, .int z])) l2 (.lst (ws ++ [.ref q])) l1 = some (.lst ((r :: zs.take i).map V.int)) := by
          rw [upd_ne n12]
          exact h15q
        have n1H : H l1 = none := n1
        refine ⟨_, rfl, Or.inl ⟨rfl, _, SqL.of h15p⟩, _, rfl, l1, _, .int z, rfl, rfl, h15p, ?_, ?_⟩
        · rw [List.length_map, List.length_cons, List.length_take]
          exact Nat.lt_of_le_of_lt (show min i zs.length + 1 ≤ 20 by omega) (by decide)
        have qlk : Lk m (upd H5 q (.tup [.int y, .int z])) (.ref q) := ⟨q, y, z, rfl, upd_same, ym.1, ym.2.1, (zin z zm).1, (zin z zm).2.1, ym.2.2⟩
        refine ⟨_, _, ws ++ [.ref q], rfl, samePut (samePut (s5.trans sq) n2H) n1H, ?_, ?_, ?_, ?_, ?_⟩
        · have e1 : p ≠ l1 := np1
          have e2 : p ≠ l2 := np2
          rw [upd_ne e1, upd_ne e2]
          exact sq _ _ hp5
        · rw [upd_same, takeSucc zs hz5, ← List.cons_append, List.map_append]
          rfl
        · rw [upd_ne (Ne.symm n12), upd_same]
        · rw [List.length_append, hwl]
          rfl
        · intro w hw
          rcases List.mem_append.mp hw with hw | hw
          · exact (((hlk w hw).keep sq).put h25q).put h15p
          · rw [List.mem_singleton.mp hw]
            exact (qlk.put h25q).put h15p
      · rintro σ2 H5 ⟨v5, v6, ws, rfl, s5, hp5, h15, h25, hwl, hlk⟩
        refine ⟨_, rfl, k l2 ws H5 n2H s5 h25 hlk ?_⟩
        rw [hwl, List.length_map]
        exact zlen
theorem ok_drawn (d : Dn K mg) (B : Bn mg) : FnOk P w K mg base CX0 4 d.f_drawn d.fd_drawn ["_law_hand_here", "_law_most", "_law_trees", "_law_more"] spDrawn := by
  have G_any := ok_any (P := P) (w := w) (base := base) d.D_any d.D_draw B.toBt
  have G_draw := ok_draw (P := P) (w := w) (base := base) d.D_draw B.toBt
  have G_turned := ok_turned (P := P) (w := w) (base := base) d B
  have G_link := ok_link (P := P) (w := w) (base := base) d B
  have G_grown_links := ok_grown (P := P) (w := w) (base := base) d B
  refine d.D_drawn.F.ok sc_law_drawn (fun vs H Q E h => ?_) (fun cdv A outer s H vs Q E hr h => ?_)
  · obtain ⟨a, z, t, k, rfl, _⟩ := h
    rfl
  · obtain ⟨a, z, t, kk, rfl, hH, z0, z1, t0, t1, k0, k1, k⟩ := h
    refine ⟨_, PSs.nox ((pss_cons (ps_set (i := 4) sc_law_drawn.nd rfl (Or.inl rfl) (pe_op op_add pe_int (pe_call G_draw (hr.mono (by decide)) (by rfl) d.D_draw.g d.D_draw.F.kp d.D_draw.b .nil pass0 (pa_cons (pv 0) (pa_cons (pe_op op_sub (pv 1) pe_int) pa_nil)))))
      (pss_cons (ps_par (i := 5) (j := 6) rfl sc_law_drawn.nd rfl rfl (by decide) rfl rfl (pa_cons (pe_call G_draw (hr.mono (by decide)) (by rfl) d.D_draw.g d.D_draw.F.kp d.D_draw.b .nil pass0 (pa_cons (pv 0) (pa_cons (pv 4) pa_nil))) (pa_cons (pe_lst pa_nil) pa_nil)) (by rfl))
      (pss_cons (ps_for PassesOwn.never rfl (pi_range1 (by rfl) B.rng (pa_cons (pe_call G_draw (hr.mono (by decide)) (by rfl) d.D_draw.g d.D_draw.F.kp d.D_draw.b .nil pass0 (pa_cons (pv 0) (pa_cons (pe_op op_add (pv 2) pe_int) pa_nil))) pa_nil)) (pg_name (i := 7) sc_law_drawn.nd rfl (Or.inl rfl))
      (pss_one (ps_expr (pe_bm PySem.F.plainAttrs_list PySem.F.slot_list_extend PySem.F.type_list_extend mt_extend (pv 6) (pa_cons (pe_call G_grown_links (hr.mono (by decide)) (by rfl) d.D_grown_links.g d.D_grown_links.F.kp d.D_grown_links.b .nil pass0 (pa_cons (pv 0) (pa_cons (pv 4) (pa_cons (pv 5) pa_nil)))) pa_nil)))))
      (pss_cons (ps_for PassesOwn.never rfl (pi_range1 (by rfl) B.rng (pa_cons (pe_call G_draw (hr.mono (by decide)) (by rfl) d.D_draw.g d.D_draw.F.kp d.D_draw.b .nil pass0 (pa_cons (pv 0) (pa_cons (pe_op op_add (pv 3) pe_int) pa_nil))) pa_nil)) (pg_name (i := 7) sc_law_drawn.nd rfl (Or.inl rfl))
      (pss_one (ps_expr (pe_bm PySem.F.plainAttrs_list PySem.F.slot_list_append PySem.F.type_list_append mt_append (pv 6) (pa_cons (pe_ifExp (PW.pt (pw_and (pt_cmpR op_gt (pe_callB call_len_seq (by rfl) B.len PySem.boot_len (pa_cons (pv 6) pa_nil)) pe_int (nomark _)) (pw_and1 (pt_cmpR op_eq (pe_call G_draw (hr.mono (by decide)) (by rfl) d.D_draw.g d.D_draw.F.kp d.D_draw.b .nil pass0 (pa_cons (pv 0) (pa_cons pe_int pa_nil))) pe_int (nomark _))))) (pe_call G_any (hr.mono (by decide)) (by rfl) d.D_any.g d.D_any.F.kp d.D_any.b .nil pass0 (pa_cons (pv 0) (pa_cons (pv 6) pa_nil))) (pe_call G_link (hr.mono (by decide)) (by rfl) d.D_link.g d.D_link.F.kp d.D_link.b .nil pass0 (pa_cons (pv 0) (pa_cons (pv 4) pa_nil)))) pa_nil)))))
      (pss_one (ps_ret (pe_tup (pa_cons (pv 4) (pa_cons (pv 5) (pa_cons (pe_callTy call_tuple_of (by rfl) B.tup boot_tuple (pa_cons (pe_slice sl_list (pe_call G_turned (hr.mono (by decide)) (by rfl) d.D_turned.g d.D_turned.F.kp d.D_turned.b .nil pass0 (pa_cons (pv 0) (pa_cons (pv 6) pa_nil))) po_none (po_some pe_int)) pa_nil)) pa_nil))))))))))), ?_⟩
    refine ⟨_, rfl, _, rfl, z, 1, rfl, rfl, a, z - 1, rfl, by omega, by omega, hH, fun i hi => ⟨2, _, rfl, rfl, ?_⟩⟩
    refine ⟨_, rfl, _, rfl, a, 2 + (i : Int), rfl, by omega, by omega, hH, fun r hr => ⟨(by show 0 ≤ sizeLine; decide), fun L nL => ⟨_, _, rfl, ?_⟩⟩⟩
    have sL := sameNew (o := HO.lst []) nL
    have m0 : 2 ≤ 2 + (i : Int) := by omega
    have m1 : 2 + (i : Int) ≤ 10 := by omega
    refine ⟨_, rfl, _, rfl, t, 1, rfl, rfl, a, t + 1, rfl, by omega, by omega, hH.keep sL, fun n hn => ⟨(n : Int), rfl, by omega, by omega, for_range (lo := 0) (n := (n : Int).toNat) (fun j σ2 H2 => ∃ (v7 : Option V) (ws : List V), σ2 = [some (.ref a), some (.int z), some (.int t), some (.int kk), some (.int (2 + (i : Int))), some (.int (r : Int)), some (.ref L), v7] ∧ Same H H2 ∧
      H2 L = some (.lst ws) ∧ ws.length ≤ 10 * j ∧ ∀ w ∈ ws, Lk (2 + (i : Int)) H2 w) ⟨_, [], rfl, sL, upd_same, Nat.zero_le _, fun w hw => (nomatch hw)⟩ ?_ ?_⟩⟩
    · rintro j σ2 H2 hj ⟨v7, ws, rfl, s2, h2, hl2, hlk⟩
      refine ⟨_, rfl, Or.inl ⟨rfl, _, SqL.of h2⟩, _, rfl, _, rfl, _, rfl, a, 2 + (i : Int), (r : Int), rfl, hH.keep s2, m0, m1, by omega, hr, fun p ws2 H3 np s3 hp hlk2 hl3 => ?_⟩
      have h3 := s3 _ _ h2
      refine ⟨L, p, ws, ws2, rfl, rfl, h3, hp, Nat.le_trans (show ws.length + ws2.length ≤ 1000 by omega) (by decide), ?_⟩
      refine ⟨_, ws ++ ws2, rfl, samePut (s2.trans s3) nL, upd_same, by rw [List.length_append]; omega, fun w hw => ?_⟩
      rcases List.mem_append.mp hw with hw | hw
      · exact ((hlk w hw).keep s3).put h3
      · exact (hlk2 w hw).put h3
    · rintro σ2 H2 ⟨v7, ws0, rfl, s2, h2, hl2, hlk0⟩
      refine ⟨_, rfl, _, rfl, kk, 1, rfl, rfl, a, kk + 1, rfl, by omega, by omega, hH.keep s2, fun n2 hn2 => ⟨(n2 : Int), rfl, by omega, by omega, for_range (lo := 0) (n := (n2 : Int).toNat) (fun j σ2 H2 => ∃ (v7 : Option V) (ws : List V), σ2 = [some (.ref a), some (.int z), some (.int t), some (.int kk), some (.int (2 + (i : Int))), some (.int (r : Int)), some (.ref L), v7] ∧ Same H H2 ∧
        H2 L = some (.lst ws) ∧ ws.length ≤ 200 + j ∧ ∀ w ∈ ws, Lk (2 + (i : Int)) H2 w) ⟨_, ws0, rfl, s2, h2, by omega, hlk0⟩ ?_ ?_⟩⟩
      · rintro j σ2 H2 hj ⟨v7, ws, rfl, s2, h2, hl2, hlk⟩
        have fin : ∀ (x : V) (H3 : Hp), Same H2 H3 → Lk (2 + (i : Int)) H3 x → rAppend (.ref L) [x] H3 fun _ H4 => ∃ (v8 : Option V) (ws2 : List V), [some (.ref a), some (.int z), some (.int t), some (.int kk), some (.int (2 + (i : Int))), some (.int (r : Int)), some (.ref L), some (.int (0 + (j : Int)))] = [some (.ref a), some (.int z), some (.int t), some (.int kk), some (.int (2 + (i : Int))), some (.int (r : Int)), some (.ref L), v8] ∧ Same H H4 ∧
            H4 L = some (.lst ws2) ∧ ws2.length ≤ 200 + (j + 1) ∧ ∀ w ∈ ws2, Lk (2 + (i : Int)) H4 w := fun x H3 s3 hx => by
          have h3 := s3 _ _ h2
          refine ⟨L, ws, x, rfl, rfl, h3, Nat.lt_of_le_of_lt (show ws.length ≤ 1000 by omega) (by decide), _, ws ++ [x], rfl, samePut (s2.trans s3) nL, upd_same, ?_, fun w hw => ?_⟩
          · rw [List.length_append]
            show ws.length + 1 ≤ 200 + (j + 1)
            omega
          · rcases List.mem_append.mp hw with hw | hw
            · exact ((hlk w hw).keep s3).put h3
            · rw [List.mem_singleton.mp hw]
              exact hx.put h3
        refine ⟨_, rfl, Or.inl ⟨rfl, _, SqL.of h2⟩, _, rfl, L, ws, rfl, Or.inl (SqL.of h2), _, 0, rfl, rfl, _, rfl, ?_⟩
        refine ite2 (fun hpos => ?_) (fun hpos => iteF ?_)
        · have hpos2 : (0 : Int) < (ws.length : Int) := of_decide_eq_true hpos
          refine ⟨_, rfl, a, 5, rfl, by decide, by decide, hH.keep s2, fun r5 hr5 => ⟨rfl, _, rfl, ?_⟩⟩
          refine ite2 (fun _ => ?_) (fun _ => ?_)
          · refine ⟨_, rfl, _, rfl, a, L, ws, rfl, hH.keep s2, SqL.of h2, by omega, by omega, fun rr x hx => ?_⟩
            exact fin x H2 (Same.refl _) (hlk x (List.mem_of_getElem? hx))
          · exact ⟨_, rfl, _, rfl, a, 2 + (i : Int), rfl, hH.keep s2, m0, m1, fun p H3 np s3 hp => fin (.ref p) H3 s3 hp⟩
        · exact ⟨_, rfl, _, rfl, a, 2 + (i : Int), rfl, hH.keep s2, m0, m1, fun p H3 np s3 hp => fin (.ref p) H3 s3 hp⟩
      · rintro σ2 H2 ⟨v7, ws, rfl, s2, h2, hl2, hlk⟩
        refine ⟨_, rfl, _, rfl, _, rfl, _, rfl, a, L, ws, rfl, hH.keep s2, h2, by omega, fun p ys H3 np s3 hp perm => ?_⟩
        refine ⟨60, rfl, p, ys, rfl, SqL.of hp, fun q nq => ⟨q, _, rfl, Or.inl ⟨SqL.of upd_same, fun l nl => ⟨(by show 3 ≤ sizeLine; decide), fun top ntop => ?_⟩⟩⟩⟩
        have sA := sameNew (o := HO.lst (cutV ys none (some 60))) nq
        have sB := sameNew (o := HO.tup (cutV ys none (some 60))) nl
        have sC := sameNew (o := HO.tup [V.int (2 + (i : Int)), V.int (r : Int), V.ref l]) ntop
        have s4 := s3.trans ((sA.trans sB).trans sC)
        refine k top (2 + (i : Int)) (r : Int) l (cutV ys none (some 60)) _ ((s2.trans (s3.trans (sA.trans sB))).free ntop) (s2.trans s4) ⟨upd_same, sC _ _ upd_same, m0, m1, by omega, hr, fun w hw => ?_, cut60 ys 60⟩ (by omega)
        exact (hlk w (perm.mem_iff.mp (mem_cutV hw))).keep s4

end
end K01
namespace K01
open PySem PySem.Spec PyProof.Rows L2 Kv
/-! ### odd things: _law_deep, _law_odd, _law_bent_links, _law_bent -/
def spDeep : Sp := fun vs H Q _ => ∃ a : Addr, vs = [.ref a] ∧ Hand H a ∧ ∀ v d H2, Same H H2 → Th H2 v d → Q v H2
def spOdd : Sp := fun vs H Q _ => ∃ (a : Addr) (x : V) (d : PyData), vs = [.ref a, x] ∧ Hand H a ∧ Th H x d ∧ ∀ v d2 H2, Same H H2 → Th H2 v d2 → Q v H2
def spBentLinks : Sp := fun vs H Q _ => ∃ (a : Addr) (x : V) (d : PyData) (m : Int), vs = [.ref a, x, .int m] ∧ Hand H a ∧ Th H x d ∧ ∀ v d2 H2, Same H H2 → Th H2 v d2 → Q v H2
/-- three parts of a net, some perhaps none -/
structure Three (H : Hp) (p : Addr) (x y z : V) (dx dy dz : PyData) : Prop where
  top : H p = some (.tup [x, y, z])
  hx : Th H x dx
  hy : Th H y dy
  hz : Th H z dz
theorem Three.keep {H H2 : Hp} {p : Addr} {x y z : V} {dx dy dz : PyData} (s : Same H H2) (h : Three H p x y z dx dy dz) : Three H2 p x y z dx dy dz := ⟨s _ _ h.top, h.hx.keep s, h.hy.keep s, h.hz.keep s⟩
def spBent : Sp := fun vs H Q _ => ∃ (a p : Addr) (x y z : V) (dx dy dz : PyData), vs = [.ref a, .ref p] ∧ Hand H a ∧ Three H p x y z dx dy dz ∧ ∀ q x2 y2 z2 dx2 dy2 dz2 H2, H q = none → Same H H2 → Three H2 q x2 y2 z2 dx2 dy2 dz2 → Q (.ref q) H2
/-- name = e, and on -/
theorem asgE {te : TE} {i : Nat} {u : TS} {D : Ends} {σ : L2.St} {H : Hp} (h : te σ H fun v H1 => u D (σ.set i (some v)) H1) : tSeq (tAsg te (gName i)) u D σ H := h
theorem retE {te : TE} {D : Ends} {σ : L2.St} {H : Hp} (h : te σ H D.rt) : tRet te D σ H := h
section
variable {P : Program} {w : World} {K : PySem.W.Frag} {mg : Str → Option Value} {base : Heap}
theorem anyTh {H : Hp} {a p : Addr} {vs : List V} {ds : List PyData} {Q : VK} (hH : Hand H a) (hp : H p = some (.lst vs)) (hs : ThAll H vs ds) (h0 : 0 < vs.length) (h1 : vs.length ≤ 1000) (k : ∀ v d, Th H v d → Q v H) : spAny K [.ref a, .ref p] H Q E0 :=
  ⟨a, p, vs, rfl, hH, SqL.of hp, h0, by omega, fun r x hx => by
    obtain ⟨d, _, hd⟩ := hs.get hx
    exact k x d hd⟩
theorem ok_deep (d : Dn K mg) (B : Bn mg) : FnOk P w K mg base CX0 3 d.f_deep d.fd_deep ["_law_hand_here"] spDeep := by
  have G_draw := ok_draw (P := P) (w := w) (base := base) d.D_draw B.toBt
  have G_any := ok_any (P := P) (w := w) (base := base) d.D_any d.D_draw B.toBt
  refine d.D_deep.F.ok sc_law_deep (fun vs H Q E h => ?_) (fun cdv A outer s H vs Q E hr h => ?_)
  · obtain ⟨a, rfl, _⟩ := h
    rfl
  · obtain ⟨a, rfl, hH, k⟩ := h
    refine ⟨_, PSs.nox ((pss_cons (ps_set (i := 1) sc_law_deep.nd rfl (Or.inl rfl) (pe_call G_any (hr.mono (by decide)) (by rfl) d.D_any.g d.D_any.F.kp d.D_any.b .nil pass0 (pa_cons (pv 0) (pa_cons (pe_lst (pa_cons pe_int (pa_cons (pe_tup pa_nil) (pa_cons pe_str pa_nil)))) pa_nil))))
      (pss_cons (ps_for PassesOwn.never rfl (pi_range1 (by rfl) B.rng (pa_cons (pe_op op_add pe_int (pe_call G_draw (hr.mono (by decide)) (by rfl) d.D_draw.g d.D_draw.F.kp d.D_draw.b .nil pass0 (pa_cons (pv 0) (pa_cons pe_int pa_nil)))) pa_nil)) (pg_name (i := 2) sc_law_deep.nd rfl (Or.inl rfl))
      (pss_one (ps_set (i := 1) sc_law_deep.nd rfl (Or.inl rfl) (pe_ifExp (pt_cmpR op_gt (pe_call G_draw (hr.mono (by decide)) (by rfl) d.D_draw.g d.D_draw.F.kp d.D_draw.b .nil pass0 (pa_cons (pv 0) (pa_cons pe_int pa_nil))) pe_int (nomark _)) (pe_tup (pa_cons (pv 1) pa_nil)) (pe_lst (pa_cons (pv 1) pa_nil))))))
      (pss_one (ps_ret (pv 1)))))), ?_⟩
    refine ⟨_, rfl, lstOf (.cons .int (.cons (.tup .nil) (.cons .str .nil))) (by decide) fun p vs ds H1 np s1 hp hs hn => anyTh (hH.keep s1) hp hs (by omega) (by omega) fun x0 d0 hd0 => ?_⟩
    refine ⟨_, rfl, a, 12, rfl, by decide, by decide, hH.keep s1, fun m hm => ⟨18, _, rfl, rfl, ?_⟩⟩
    refine ⟨18 + (m : Int), rfl, by omega, by omega, for_range (lo := 0) (n := (18 + (m : Int)).toNat) (fun i σ2 H2 => ∃ (x : V) (z : Option V) (d : PyData), σ2 = [some (.ref a), some x, z] ∧ Same H H2 ∧ Th H2 x d) ⟨x0, none, d0, rfl, s1, hd0⟩ ?_ ?_⟩
    · rintro i σ2 H2 hi ⟨x, z, d, rfl, s2, hd⟩
      refine ⟨_, rfl, a, 3, rfl, by decide, by decide, hH.keep s2, fun r hr => ⟨_, 0, rfl, rfl, _, rfl, ?_⟩⟩
      refine ite2 (fun _ => ?_) (fun _ => ?_)
      · exact ThE.tup (n := 1) (.cons (.var (i := 1) rfl hd) .nil) (by decide) H2 (Same.refl _) _ fun v dv H3 s3 hv => ⟨v, _, dv, rfl, s2.trans s3, hv⟩
      · exact ThE.lst (n := 1) (.cons (.var (i := 1) rfl hd) .nil) (by decide) H2 (Same.refl _) _ fun v dv H3 s3 hv => ⟨v, _, dv, rfl, s2.trans s3, hv⟩
    · rintro σ2 H2 ⟨x, z, d, rfl, s2, hd⟩
      exact ⟨_, rfl, k x d H2 s2 hd⟩
theorem deepE {σ : L2.St} {H : Hp} {a : Addr} (e : σ[0]? = some (some (.ref a))) (hH : Hand H a) : ThE (tCall spDeep [] E0 (tCons (tVar 0) tNil)) σ H := fun H1 s Q k =>
  ⟨_, e, a, rfl, hH.keep s, k⟩
theorem ok_odd (d : Dn K mg) (B : Bn mg) : FnOk P w K mg base CX0 4 d.f_odd d.fd_odd ["_law_hand_here", "_law_thing"] spOdd := by
  have G_any := ok_any (P := P) (w := w) (base := base) d.D_any d.D_draw B.toBt
  have G_deep := ok_deep (P := P) (w := w) (base := base) d B
  refine d.D_odd.F.ok sc_law_odd (fun vs H Q E h => ?_) (fun cdv A outer s H vs Q E hr h => ?_)
  · obtain ⟨a, x, dx, rfl, _⟩ := h
    rfl
  · obtain ⟨a, x, dx, rfl, hH, hx, k⟩ := h
    refine ⟨_, PSs.nox ((pss_cons (ps_set (i := 2) sc_law_odd.nd rfl (Or.inl rfl) (pe_lst (pa_cons pe_non (pa_cons pe_bl (pa_cons pe_bl (pa_cons pe_int (pa_cons (pe_un un_neg pe_int) (pa_cons pe_str (pa_cons pe_str (pa_cons (pe_tup pa_nil) (pa_cons (pe_lst pa_nil) (pa_cons pe_dnewK (pa_cons (pe_tup (pa_cons pe_int pa_nil)) (pa_cons (pe_tup (pa_cons (pe_tup (pa_cons pe_int (pa_cons pe_int pa_nil))) pa_nil)) (pa_cons (pe_tup (pa_cons pe_non pa_nil)) (pa_cons (pe_op op_pow pe_int pe_int) (pa_cons (pv 1) pa_nil)))))))))))))))))
      (pss_one (ps_ret (pe_call G_any (hr.mono (by decide)) (by rfl) d.D_any.g d.D_any.F.kp d.D_any.b .nil pass0 (pa_cons (pv 0) (pa_cons (pe_op op_cat (pv 2) (pe_lst (pa_cons (pe_call G_deep (hr.mono (by decide)) (by rfl) d.D_deep.g d.D_deep.F.kp d.D_deep.b .nil pass0 (pa_cons (pv 0) pa_nil)) pa_nil))) pa_nil))))))), ?_⟩
    refine asgE (lstOf (n := 15) (.cons .non (.cons .bl (.cons .bl (.cons .int (.cons .neg (.cons .str (.cons .str (.cons (.tup .nil) (.cons (.lst .nil) (.cons .dic (.cons (.tup (.cons .int .nil)) (.cons (.tup (.cons (.tup (.cons .int (.cons .int .nil))) .nil)) (.cons (.tup (.cons .non .nil)) (.cons (.pow ⟨by decide, by decide, by decide⟩) (.cons (.var rfl hx) .nil)))))))))))))))
      (by decide) fun p vs ds H1 np s1 hp hs hn => ?_)
    refine ⟨_, rfl, _, rfl, lstOf (n := 1) (.cons (deepE rfl (hH.keep s1)) .nil) (by decide) fun p2 vs2 ds2 H2 np2 s2 hp2 hs2 hn2 => ⟨p, p2, vs, vs2, rfl, rfl, s2 _ _ hp, hp2, by rw [hn, hn2]; decide, fun q nq => ?_⟩⟩
    have sq := sameNew (o := HO.lst (vs ++ vs2)) nq
    exact anyTh (((hH.keep s1).keep s2).keep sq) upd_same (((hs.keep s2).append hs2).keep sq) (by rw [List.length_append]; omega) (by rw [List.length_append]; omega) fun v dv hv => k v dv _ ((s1.trans s2).trans sq) hv
theorem oddE {σ : L2.St} {H : Hp} {a : Addr} {i : Nat} {x : V} {d : PyData} (e : σ[0]? = some (some (.ref a))) (hH : Hand H a) (e2 : σ[i]? = some (some x)) (hx : Th H x d) : ThE (tCall spOdd [] E0 (tCons (tVar 0) (tCons (tVar i) tNil))) σ H := fun H1 s Q k =>
  ⟨_, e, _, e2, a, x, d, rfl, hH.keep s, hx.keep s, k⟩
theorem ok_bent_links (d : Dn K mg) (B : Bn mg) : FnOk P w K mg base CX0 5 d.f_bent_links d.fd_bent_links ["_law_hand_here", "_law_links", "_law_many"] spBentLinks := by
  have G_draw := ok_draw (P := P) (w := w) (base := base) d.D_draw B.toBt
  have G_any := ok_any (P := P) (w := w) (base := base) d.D_any d.D_draw B.toBt
  have G_odd := ok_odd (P := P) (w := w) (base := base) d B
  refine d.D_bent_links.F.ok sc_law_bent_links (fun vs H Q E h => ?_) (fun cdv A outer s H vs Q E hr h => ?_)
  · obtain ⟨a, x, dx, m, rfl, _⟩ := h
    rfl
  · obtain ⟨a, x, dx, m, rfl, hH, hx, k⟩ := h
    refine ⟨_, PSs.nox ((pss_cons (ps_if (pt_not (pt_val (pe_callB call_isi (by rfl) B.isi boot_isinstance (pa_cons (pv 1) (pa_cons (pe_bltn (v := .ty "tuple") (by rfl) B.tup (by decide +kernel) rfl) pa_nil)))))
      (pss_one (ps_ret (pv 1))) pss_nil)
      (pss_cons (ps_set (i := 3) sc_law_bent_links.nd rfl (Or.inl rfl) (pe_call G_draw (hr.mono (by decide)) (by rfl) d.D_draw.g d.D_draw.F.kp d.D_draw.b .nil pass0 (pa_cons (pv 0) (pa_cons pe_int pa_nil))))
      (pss_cons (ps_if (PW.pt (pw_or (pt_cmpR op_eq (pv 3) pe_int (nomark _)) (pw_or1 (pt_cmpR op_eq (pe_callB call_len_seq (by rfl) B.len PySem.boot_len (pa_cons (pv 1) pa_nil)) pe_int (nomark _)))))
      (pss_cons (ps_set (i := 4) sc_law_bent_links.nd rfl (Or.inl rfl) (pe_op op_catA (pv 1) (pe_op op_repT (pe_tup (pa_cons (pe_tup (pa_cons pe_int (pa_cons pe_int pa_nil))) pa_nil)) pe_int)))
      (pss_one (ps_ret (pe_call G_any (hr.mono (by decide)) (by rfl) d.D_any.g d.D_any.F.kp d.D_any.b .nil pass0 (pa_cons (pv 0) (pa_cons (pe_lst (pa_cons (pe_callTy call_list_of (by rfl) B.lst boot_list (pa_cons (pv 1) pa_nil)) (pa_cons (pe_slice sl_tupA (pv 4) po_none (po_some pe_int)) (pa_cons (pe_slice sl_tupA (pv 4) po_none (po_some pe_int)) (pa_cons pe_non (pa_cons pe_int (pa_cons (pe_tup pa_nil) pa_nil))))))) pa_nil)))))) pss_nil)
      (pss_cons (ps_set (i := 5) sc_law_bent_links.nd rfl (Or.inl rfl) (pe_call G_draw (hr.mono (by decide)) (by rfl) d.D_draw.g d.D_draw.F.kp d.D_draw.b .nil pass0 (pa_cons (pv 0) (pa_cons (pe_callB call_len_seq (by rfl) B.len PySem.boot_len (pa_cons (pv 1) pa_nil)) pa_nil))))
      (pss_cons (ps_set (i := 6) sc_law_bent_links.nd rfl (Or.inl rfl) (pe_lst (pa_cons (pe_tup (pa_cons pe_int (pa_cons pe_int pa_nil))) (pa_cons (pe_tup (pa_cons pe_int (pa_cons (pv 2) pa_nil))) (pa_cons (pe_tup (pa_cons (pv 2) (pa_cons pe_int pa_nil))) (pa_cons (pe_tup (pa_cons (pe_un un_neg pe_int) (pa_cons pe_int pa_nil))) (pa_cons (pe_tup (pa_cons pe_int (pa_cons pe_bl pa_nil))) (pa_cons (pe_tup (pa_cons pe_int pa_nil)) (pa_cons (pe_tup (pa_cons pe_int (pa_cons pe_int (pa_cons pe_int pa_nil)))) (pa_cons (pe_lst (pa_cons pe_int (pa_cons pe_int pa_nil))) (pa_cons (pe_tup (pa_cons pe_int (pa_cons pe_non pa_nil))) (pa_cons (pe_tup (pa_cons pe_str (pa_cons pe_int pa_nil))) (pa_cons (pe_tup (pa_cons pe_int (pa_cons pe_int pa_nil))) pa_nil)))))))))))))
      (pss_one (ps_ret (pe_op op_catA (pe_op op_catA (pe_slice sl_tupA (pv 1) po_none (po_some (pv 5))) (pe_tup (pa_cons (pe_call G_any (hr.mono (by decide)) (by rfl) d.D_any.g d.D_any.F.kp d.D_any.b .nil pass0 (pa_cons (pv 0) (pa_cons (pe_op op_cat (pv 6) (pe_lst (pa_cons (pe_call G_odd (hr.mono (by decide)) (by rfl) d.D_odd.g d.D_odd.F.kp d.D_odd.b .nil pass0 (pa_cons (pv 0) (pa_cons (pv 1) pa_nil))) pa_nil))) pa_nil))) pa_nil))) (pe_slice sl_tupA (pv 1) (po_some (pe_op op_add (pv 5) pe_int)) po_none)))))))))), ?_⟩
    refine ⟨_, rfl, x, _, _, _, _, rfl, .ty _, hx.tyx, kit_tup dx, _, rfl, ?_⟩
    have hx0 := hx
    cases hx
    case non => exact iteT ⟨_, rfl, k _ _ H (Same.refl _) hx0⟩
    case bl => exact iteT ⟨_, rfl, k _ _ H (Same.refl _) hx0⟩
    case int => exact iteT ⟨_, rfl, k _ _ H (Same.refl _) hx0⟩
    case str => exact iteT ⟨_, rfl, k _ _ H (Same.refl _) hx0⟩
    case lst => exact iteT ⟨_, rfl, k _ _ H (Same.refl _) hx0⟩
    case dic => exact iteT ⟨_, rfl, k _ _ H (Same.refl _) hx0⟩
    rename_i l ws ds ha hs hl
    refine iteF ?_
    refine ⟨_, rfl, a, 5, rfl, by decide, by decide, hH, fun kind hk => ?_⟩
    refine ⟨_, rfl, rfl, _, rfl, ?_⟩
    refine ite2 (fun _ => ?_) (fun _ => ?_)
    · refine iteT ?_
      refine ⟨_, rfl, tupOf (n := 1) (.cons (.tup (.cons .int (.cons .int .nil))) .nil) (by decide) fun p vs2 ds2 H1 np s1 hp hs2 hn2 => ?_⟩
      refine ⟨p, 61, vs2, rfl, rfl, SqT.of hp, ?_, by decide, by decide, by omega, fun q nq => ?_⟩
      · intro e
        rw [e] at hn2
        cases hn2
      have sq := sameNew (o := HO.tup (List.replicate (61 : Int).toNat vs2).flatten) nq
      obtain ⟨es, hes⟩ := hs2.rep (61 : Int).toNat
      refine catTup ((s1.trans sq) _ _ ha) upd_same ?_ fun r H2 s2 hr2 => ?_
      · have e61 : (61 : Int).toNat = 61 := rfl
        rw [List.length_flatten, List.map_replicate, List.sum_replicate_nat, hn2, e61]
        omega
      have s02 := (s1.trans sq).trans s2
      have hrs := ((hs.keep (s1.trans sq)).append (hes.keep sq)).keep s2
      refine ⟨_, rfl, lstOf (n := 6) (.cons (.list rfl (s02 _ _ ha) (hs.keep s02)) (.cons (.cut (n := 61) rfl hr2 hrs (by decide)) (.cons (.cut (n := 60) rfl hr2 hrs (by decide)) (.cons .non (.cons .int (.cons (.tup .nil) .nil)))))) (by decide) fun p3 vs3 ds3 H3 np3 s3 hp3 hs3 hn3 => ?_⟩
      exact anyTh (hH.keep (s02.trans s3)) hp3 hs3 (by omega) (by omega) fun v dv hv => k v dv H3 (s02.trans s3) hv
    refine ⟨_, rfl, l, ws, rfl, Or.inr (SqT.of ha), rfl, _, rfl, ?_⟩
    refine ite2 (fun _ => ?_) (fun hne => ?_)
    · refine ⟨_, rfl, tupOf (n := 1) (.cons (.tup (.cons .int (.cons .int .nil))) .nil) (by decide) fun p vs2 ds2 H1 np s1 hp hs2 hn2 => ?_⟩
      refine ⟨p, 61, vs2, rfl, rfl, SqT.of hp, ?_, by decide, by decide, by omega, fun q nq => ?_⟩
      · intro e
        rw [e] at hn2
        cases hn2
      have sq := sameNew (o := HO.tup (List.replicate (61 : Int).toNat vs2).flatten) nq
      obtain ⟨es, hes⟩ := hs2.rep (61 : Int).toNat
      refine catTup ((s1.trans sq) _ _ ha) upd_same ?_ fun r H2 s2 hr2 => ?_
      · have e61 : (61 : Int).toNat = 61 := rfl
        rw [List.length_flatten, List.map_replicate, List.sum_replicate_nat, hn2, e61]
        omega
      have s02 := (s1.trans sq).trans s2
      have hrs := ((hs.keep (s1.trans sq)).append (hes.keep sq)).keep s2
      refine ⟨_, rfl, lstOf (n := 6) (.cons (.list rfl (s02 _ _ ha) (hs.keep s02)) (.cons (.cut (n := 61) rfl hr2 hrs (by decide)) (.cons (.cut (n := 60) rfl hr2 hrs (by decide)) (.cons .non (.cons .int (.cons (.tup .nil) .nil)))))) (by decide) fun p3 vs3 ds3 H3 np3 s3 hp3 hs3 hn3 => ?_⟩
      exact anyTh (hH.keep (s02.trans s3)) hp3 hs3 (by omega) (by omega) fun v dv hv => k v dv H3 (s02.trans s3) hv
    · have hpos : 0 < ws.length := Nat.pos_of_ne_zero fun e => hne (by rw [e]; rfl)
      refine ⟨_, rfl, _, rfl, l, ws, rfl, Or.inr (SqT.of ha), a, _, rfl, by omega, by omega, hH, fun at_ hat => ?_⟩
      have hat2 : at_ < ws.length := by omega
      refine asgE (lstOf (n := 11) (.cons (.tup (.cons .int (.cons .int .nil))) (.cons (.tup (.cons .int (.cons (.var rfl (.int m)) .nil))) (.cons (.tup (.cons (.var rfl (.int m)) (.cons .int .nil))) (.cons (.tup (.cons .neg (.cons .int .nil))) (.cons (.tup (.cons .int (.cons .bl .nil))) (.cons (.tup (.cons .int .nil)) (.cons (.tup (.cons .int (.cons .int (.cons .int .nil))))
        (.cons (.lst (.cons .int (.cons .int .nil))) (.cons (.tup (.cons .int (.cons .non .nil))) (.cons (.tup (.cons .str (.cons .int .nil))) (.cons (.tup (.cons .int (.cons .int .nil))) .nil))))))))))) (by decide) fun p vs1 ds1 H1 np s1 hp hs1 hn1 => ?_)
      refine ⟨_, rfl, _, rfl, _, rfl, slTup (s1 _ _ ha) fun q1 H2 s2 hq1 => ?_⟩
      have s02 := s1.trans s2
      refine ⟨_, rfl, _, rfl, lstOf (n := 1) (.cons (oddE rfl (hH.keep s02) rfl (hx0.keep s02)) .nil) (by decide) fun p2 vs2 ds2 H3 np2 s3 hp2 hs2 hn2 => ⟨p, p2, vs1, vs2, rfl, rfl, (s2.trans s3) _ _ hp, hp2, by rw [hn1, hn2]; decide, fun q nq => ?_⟩⟩
      have sq := sameNew (o := HO.lst (vs1 ++ vs2)) nq
      have s04 := (s02.trans s3).trans sq
      refine anyTh (hH.keep s04) upd_same ((((hs1.keep s2).keep s3).append hs2).keep sq) (by rw [List.length_append]; omega) (by rw [List.length_append]; omega) fun v dv hv => ⟨(by show 1 ≤ sizeLine; decide), fun t nt => ?_⟩
      have st := sameNew (o := HO.tup [v]) nt
      have cl : (cutV ws none (some (at_ : Int))).length ≤ 100 := Nat.le_trans (cutV_length _ _ _) hl
      refine catTup (((s3.trans sq).trans st) _ _ hq1) upd_same (by show _ + 1 ≤ 10000; omega) fun c H5 s5 hc => ?_
      have s05 := (s04.trans st).trans s5
      refine ⟨_, rfl, _, rfl, _, 1, rfl, rfl, _, rfl, ?_⟩
      dsimp only [tNoPart]
      refine slTup (s05 _ _ ha) fun q3 H6 s6 hq3 => ?_
      have tot := cutAt ws at_ hat2 v
      have tot2 := tot
      rw [List.length_append] at tot2
      refine catTup (s6 _ _ hc) hq3 (by omega) fun fin H7 s7 hfin => ?_
      have s57 := s6.trans s7
      have s07 := s05.trans s57
      have tws := hs.keep s07
      have tv : Th H7 v dv := (((hv.keep st).keep s5).keep s57)
      exact k (.ref fin) _ H7 s07 (.tup hfin ((((tws.drop _).take _).append (.cons tv .nil)).append ((tws.drop _).take _)) (by rw [tot]; exact hl))
theorem ok_bent (d : Dn K mg) (B : Bn mg) : FnOk P w K mg base CX0 6 d.f_bent d.fd_bent ["_law_hand_here", "_law_net"] spBent := by
  have G_draw := ok_draw (P := P) (w := w) (base := base) d.D_draw B.toBt
  have G_any := ok_any (P := P) (w := w) (base := base) d.D_any d.D_draw B.toBt
  have G_odd := ok_odd (P := P) (w := w) (base := base) d B
  have G_is_int := ok_is_int (P := P) (w := w) (base := base) d B
  have G_bent_links := ok_bent_links (P := P) (w := w) (base := base) d B
  refine d.D_bent.F.ok sc_law_bent (fun vs H Q E h => ?_) (fun cdv A outer s H vs Q E hr h => ?_)
  · obtain ⟨a, p, x, y, z, dx, dy, dz, rfl, _⟩ := h
    rfl
  · obtain ⟨a, p, x, y, z, dx, dy, dz, rfl, hH, h3, k⟩ := h
    refine ⟨_, PSs.nox ((pss_cons (ps_asg (pv 1) (pg_tup (by rfl) (pgs_cons (pg_name (i := 2) sc_law_bent.nd rfl (Or.inl rfl)) (pgs_cons (pg_name (i := 3) sc_law_bent.nd rfl (Or.inl rfl)) (pgs_cons (pg_name (i := 4) sc_law_bent.nd rfl (Or.inl rfl)) pgs_nil)))))
      (pss_cons (ps_set (i := 5) sc_law_bent.nd rfl (Or.inl rfl) (pe_call G_draw (hr.mono (by decide)) (by rfl) d.D_draw.g d.D_draw.F.kp d.D_draw.b .nil pass0 (pa_cons (pv 0) (pa_cons pe_int pa_nil))))
      (pss_cons (ps_if (pt_cmpR op_eq (pv 5) pe_int (nomark _))
      (pss_one (ps_ret (pe_tup (pa_cons (pe_call G_any (hr.mono (by decide)) (by rfl) d.D_any.g d.D_any.F.kp d.D_any.b .nil pass0 (pa_cons (pv 0) (pa_cons (pe_lst (pa_cons pe_int (pa_cons pe_int (pa_cons pe_int (pa_cons pe_int (pa_cons pe_int (pa_cons (pe_un un_neg pe_int) (pa_cons pe_bl (pa_cons pe_non (pa_cons pe_str (pa_cons (pe_call G_odd (hr.mono (by decide)) (by rfl) d.D_odd.g d.D_odd.F.kp d.D_odd.b .nil pass0 (pa_cons (pv 0) (pa_cons (pv 4) pa_nil))) pa_nil))))))))))) pa_nil))) (pa_cons (pv 3) (pa_cons (pv 4) pa_nil)))))) pss_nil)
      (pss_cons (ps_if (pt_cmpR op_eq (pv 5) pe_int (nomark _))
      (pss_one (ps_ret (pe_tup (pa_cons (pv 2) (pa_cons (pe_call G_any (hr.mono (by decide)) (by rfl) d.D_any.g d.D_any.F.kp d.D_any.b .nil pass0 (pa_cons (pv 0) (pa_cons (pe_lst (pa_cons (pe_un un_neg pe_int) (pa_cons pe_int (pa_cons pe_int (pa_cons pe_int (pa_cons pe_bl (pa_cons pe_non (pa_cons pe_str (pa_cons (pe_call G_odd (hr.mono (by decide)) (by rfl) d.D_odd.g d.D_odd.F.kp d.D_odd.b .nil pass0 (pa_cons (pv 0) (pa_cons (pv 4) pa_nil))) pa_nil))))))))) pa_nil))) (pa_cons (pv 4) pa_nil)))))) pss_nil)
      (pss_one (ps_ret (pe_tup (pa_cons (pv 2) (pa_cons (pv 3) (pa_cons (pe_call G_bent_links (hr.mono (by decide)) (by rfl) d.D_bent_links.g d.D_bent_links.F.kp d.D_bent_links.b .nil pass0 (pa_cons (pv 0) (pa_cons (pv 4) (pa_cons (pe_ifExp (pt_val (pe_call G_is_int (hr.mono (by decide)) (by rfl) d.D_is_int.g d.D_is_int.F.kp d.D_is_int.b .nil pass0 (pa_cons (pv 2) (pa_cons pe_int (pa_cons pe_int pa_nil))))) (pv 2) pe_int) pa_nil)))) pa_nil))))))))))), ?_⟩
    refine ⟨_, rfl, p, _, rfl, SqT.of h3.top, rfl, _, _, rfl, _, _, rfl, _, _, rfl, rfl, ?_⟩
    refine ⟨_, rfl, a, 4, rfl, by decide, by decide, hH, fun kind hk => ?_⟩
    have fin : ∀ (x2 y2 z2 : V) (ex ey ez : PyData) (H2 : Hp), Same H H2 → Th H2 x2 ex → Th H2 y2 ey → Th H2 z2 ez → ∀ q, H2 q = none → Q (.ref q) (upd H2 q (.tup [x2, y2, z2])) := fun x2 y2 z2 ex ey ez H2 s2 hx hy hz q nq =>
      k q x2 y2 z2 ex ey ez _ (s2.free nq) (s2.trans (newS nq)) ⟨upd_same, hx.keep (newS nq), hy.keep (newS nq), hz.keep (newS nq)⟩
    refine ⟨_, rfl, rfl, _, rfl, ?_⟩
    refine ite2 (fun _ => ?_) (fun _ => ?_)
    · refine ⟨_, rfl, lstOf (n := 10) (.cons .int (.cons .int (.cons .int (.cons .int (.cons .int (.cons .neg (.cons .bl (.cons .non (.cons .str (.cons (oddE rfl hH rfl h3.hz) .nil)))))))))) (by decide) fun p2 vs ds H1 np s1 hp hs hn => ?_⟩
      dsimp only [tNil]
      refine anyTh (hH.keep s1) hp hs (by omega) (by omega) fun v dv hv => ⟨_, rfl, _, rfl, (by show 3 ≤ sizeLine; decide), ?_⟩
      exact fin v y z dv dy dz H1 s1 hv (h3.hy.keep s1) (h3.hz.keep s1)
    refine ⟨_, rfl, rfl, _, rfl, ?_⟩
    refine ite2 (fun _ => ?_) (fun _ => ?_)
    · refine ⟨_, rfl, _, rfl, lstOf (n := 8) (.cons .neg (.cons .int (.cons .int (.cons .int (.cons .bl (.cons .non (.cons .str (.cons (oddE rfl hH rfl h3.hz) .nil)))))))) (by decide) fun p2 vs ds H1 np s1 hp hs hn => ?_⟩
      dsimp only [tNil]
      refine anyTh (hH.keep s1) hp hs (by omega) (by omega) fun v dv hv => ⟨_, rfl, (by show 3 ≤ sizeLine; decide), ?_⟩
      exact fin x v z dx dv dz H1 s1 (h3.hx.keep s1) hv (h3.hz.keep s1)
    · refine ⟨_, rfl, _, rfl, _, rfl, _, rfl, _, rfl, x, dx, 2, 10, rfl, h3.hx, _, rfl, ?_⟩
      have links : ∀ m : Int, spBentLinks [.ref a, z, .int m] H (fun v H2 => (3 : Nat) ≤ sizeLine ∧ ∀ q, H2 q = none → Q (.ref q) (upd H2 q (.tup [x, y, v]))) E0 := fun m =>
        ⟨a, z, dz, m, rfl, hH, h3.hz, fun v dv H1 s1 hv => ⟨by decide, fin x y v dx dy dv H1 s1 (h3.hx.keep s1) (h3.hy.keep s1) hv⟩⟩
      cases hb : isBt dx 2 10 with
      | false => exact links 5
      | true =>
        have hx := h3.hx
        cases dx with
        | int m =>
          cases hx
          exact ⟨_, rfl, links m⟩
        | _ => cases hb
end
end K01
namespace K01
open PySem PySem.Spec PyProof.Rows L2 Kv
/-! ### judges: _law_is_link, _law_wrong, is_integer, is_between, is_unlike_pair -/
def isI : PyData → Bool
  | .int _ => true
  | _ => false
def spIsInteger : Sp := fun vs H Q _ => ∃ (x : V) (d : PyData), vs = [x] ∧ Th H x d ∧ Q (.bl (isI d)) H
def spIsPr : Sp := fun vs H Q _ => ∃ (x : V) (d : PyData) (m : Int), vs = [x, .int m] ∧ Th H x d ∧ Q (.bl (isPr d m)) H
def spIsLink : Sp := fun vs H Q _ => ∃ (x : V) (d : PyData) (m : Int), vs = [.int m, x] ∧ Th H x d ∧ ∀ H2, Same H H2 → Q (.bl (isPr d m)) H2
def spWrong : Sp := fun vs H Q _ => ∃ (x y z : V) (dx dy dz : PyData), vs = [x, y, z] ∧ Th H x dx ∧ Th H y dy ∧ Th H z dz ∧ ∀ H2, Same H H2 → Q (wrongV dx dy dz) H2
section
variable {P : Program} {w : World} {K : PySem.W.Frag} {mg : Str → Option Value} {base : Heap}
theorem ok_is_integer (d : Dn K mg) (B : Bn mg) : FnOk P w K mg base CX0 1 d.f_is_integer d.fd_is_integer ["thing"] spIsInteger := by
  refine d.D_is_integer.F.ok scis_integer (fun vs H Q E h => ?_) (fun cdv A outer s H vs Q E hr h => ?_)
  · obtain ⟨x, dd, rfl, _⟩ := h
    rfl
  · obtain ⟨x, dd, rfl, hx, k⟩ := h
    refine ⟨_, PSs.nox ((pss_one (ps_ret (pe_and (pe_callB call_isi (by rfl) B.isi boot_isinstance (pa_cons (pv 0) (pa_cons (pe_bltn (v := .ty "int") (by rfl) B.int (by decide +kernel) rfl) pa_nil))) (pe_one (pe_not (pe_callB call_isi (by rfl) B.isi boot_isinstance (pa_cons (pv 0) (pa_cons (pe_bltn (v := .ty "bool") (by rfl) B.bool (by decide +kernel) rfl) pa_nil))))))))), ?_⟩
    refine ⟨_, rfl, x, _, _, _, _, rfl, .ty _, hx.tyx, kit_int dd, _, rfl, ?_⟩
    cases hx with
    | non => exact iteF k
    | str y => exact iteF k
    | lst h1 h2 => exact iteF k
    | tup h1 h2 => exact iteF k
    | dic h1 => exact iteF k
    | bl b => exact iteT ⟨_, rfl, _, _, _, _, _, rfl, .ty _, (Th.bl b).tyx, kit_bool (.bool b), _, rfl, k⟩
    | int i => exact iteT ⟨_, rfl, _, _, _, _, _, rfl, .ty _, (Th.int i).tyx, kit_bool (.int i), _, rfl, k⟩
theorem ok_is_between (d : Dn K mg) (B : Bn mg) : FnOk P w K mg base CX0 2 d.f_is_between d.fd_is_between ["thing", "least", "most"] spIsInt := by
  have G_is_integer := ok_is_integer (P := P) (w := w) (base := base) d B
  refine d.D_is_between.F.ok scis_between (fun vs H Q E h => ?_) (fun cdv A outer s H vs Q E hr h => ?_)
  · obtain ⟨x, dd, lo, hi, rfl, _⟩ := h
    rfl
  · obtain ⟨x, dd, lo, hi, rfl, hx, k⟩ := h
    refine ⟨_, PSs.nox ((pss_one (ps_ret (pe_and (pe_call G_is_integer (hr.mono (by decide)) (by rfl) d.D_is_integer.g d.D_is_integer.F.kp d.D_is_integer.b .nil pass0 (pa_cons (pv 0) pa_nil)) (pe_and (pe_cmpR op_le (pv 1) (pv 0) (nomark _)) (pe_one (pe_cmpR op_le (pv 0) (pv 2) (nomark _)))))))), ?_⟩
    refine ⟨_, rfl, x, dd, rfl, hx, _, rfl, ?_⟩
    cases hx with
    | non => exact iteF k
    | str y => exact iteF k
    | lst h1 h2 => exact iteF k
    | tup h1 h2 => exact iteF k
    | dic h1 => exact iteF k
    | bl b => exact iteF k
    | int i =>
      refine iteT ⟨_, rfl, _, rfl, lo, i, rfl, rfl, _, rfl, ?_⟩
      have e : isBt (.int i) lo hi = (decide (lo ≤ i) && decide (i ≤ hi)) := rfl
      rw [e] at k
      cases hd : decide (lo ≤ i) with
      | false =>
        rw [hd] at k
        exact iteF k
      | true =>
        rw [hd] at k
        exact iteT ⟨_, rfl, _, rfl, i, hi, rfl, rfl, k⟩
theorem ok_is_unlike_pair (d : Dn K mg) (B : Bn mg) : FnOk P w K mg base CX0 3 d.f_is_unlike_pair d.fd_is_unlike_pair ["thing", "bound"] spIsPr := by
  have G_is_between := ok_is_between (P := P) (w := w) (base := base) d B
  refine d.D_is_unlike_pair.F.ok scis_unlike_pair (fun vs H Q E h => ?_) (fun cdv A outer s H vs Q E hr h => ?_)
  · obtain ⟨x, dd, m, rfl, _⟩ := h
    rfl
  · obtain ⟨x, dd, m, rfl, hx, k⟩ := h
    refine ⟨_, PSs.nox ((pss_cons (ps_if (PW.pt (pw_or (pt_not (pt_val (pe_callB call_isi (by rfl) B.isi boot_isinstance (pa_cons (pv 0) (pa_cons (pe_bltn (v := .ty "tuple") (by rfl) B.tup (by decide +kernel) rfl) pa_nil))))) (pw_or1 (pt_cmpR op_ne (pe_callB call_len_seq (by rfl) B.len PySem.boot_len (pa_cons (pv 0) pa_nil)) pe_int (nomark _)))))
      (pss_one (ps_ret pe_bl)) pss_nil)
      (pss_cons (ps_asg (pv 0) (pg_tup (by rfl) (pgs_cons (pg_name (i := 2) scis_unlike_pair.nd rfl (Or.inl rfl)) (pgs_cons (pg_name (i := 3) scis_unlike_pair.nd rfl (Or.inl rfl)) pgs_nil))))
      (pss_cons (ps_if (PW.pt (pw_or (pt_not (pt_val (pe_call G_is_between (hr.mono (by decide)) (by rfl) d.D_is_between.g d.D_is_between.F.kp d.D_is_between.b .nil pass0 (pa_cons (pv 2) (pa_cons pe_int (pa_cons (pe_op op_sub (pv 1) pe_int) pa_nil)))))) (pw_or1 (pt_not (pt_val (pe_call G_is_between (hr.mono (by decide)) (by rfl) d.D_is_between.g d.D_is_between.F.kp d.D_is_between.b .nil pass0 (pa_cons (pv 3) (pa_cons pe_int (pa_cons (pe_op op_sub (pv 1) pe_int) pa_nil)))))))))
      (pss_one (ps_ret pe_bl)) pss_nil)
      (pss_one (ps_ret (pe_cmpR op_ne (pv 2) (pv 3) (nomark _)))))))), ?_⟩
    refine ⟨_, rfl, x, _, _, _, _, rfl, .ty _, hx.tyx, kit_tup dd, _, rfl, ?_⟩
    cases hx with
    | non => exact iteT k
    | str y => exact iteT k
    | lst h1 h2 => exact iteT k
    | dic h1 => exact iteT k
    | bl b => exact iteT k
    | int i => exact iteT k
    | @tup a vs ds ha hs hl =>
      refine iteF ⟨_, rfl, a, vs, rfl, Or.inr (SqT.of ha), rfl, _, rfl, ?_⟩
      match vs, ds, hs with
      | [], _, .nil => exact k
      | [_], _, .cons _ .nil => exact k
      | y1 :: y2 :: y3 :: ys, _, .cons _ (.cons _ (.cons _ _)) =>
        refine ite2 (fun _ => k) (fun hne => (hne ?_).elim)
        have e : decide (V.int ((y1 :: y2 :: y3 :: ys).length : Int) = V.int 2) = false := decide_eq_false fun z => by
          have z2 : ((y1 :: y2 :: y3 :: ys).length : Int) = 2 := V.int.inj z
          rw [List.length_cons, List.length_cons, List.length_cons] at z2
          omega
        rw [e]
        rfl
      | [x1, x2], _, .cons (d := d1) h1 (.cons (d := d2) h2 .nil) =>
        have e : isPr (.tuple [d1, d2]) m = (isBt d1 0 (m - 1) && (isBt d2 0 (m - 1) && neI d1 d2)) := rfl
        rw [e] at k
        refine iteF ?_
        refine ⟨_, rfl, a, _, rfl, SqT.of ha, rfl, _, _, rfl, _, _, rfl, rfl, ?_⟩
        refine ⟨_, rfl, _, rfl, m, 1, rfl, rfl, x1, d1, 0, m - 1, rfl, h1, _, rfl, ?_⟩
        cases hb1 : isBt d1 0 (m - 1) with
        | false =>
          rw [hb1] at k
          exact iteT k
        | true =>
        rw [hb1, Bool.true_and] at k
        refine iteF ?_
        refine ⟨_, rfl, _, rfl, m, 1, rfl, rfl, x2, d2, 0, m - 1, rfl, h2, _, rfl, ?_⟩
        cases hb2 : isBt d2 0 (m - 1) with
        | false =>
          rw [hb2] at k
          exact k
        | true =>
        rw [hb2, Bool.true_and] at k
        obtain ⟨i1, rfl, _, _⟩ := isBt_int hb1
        obtain ⟨i2, rfl, _, _⟩ := isBt_int hb2
        cases h1
        cases h2
        refine iteF ⟨_, rfl, _, rfl, rfl, ?_⟩
        have e2 : (!decide (V.int i1 = V.int i2)) = neI (.int i1) (.int i2) := by
          show (!decide (V.int i1 = V.int i2)) = !decide (i1 = i2)
          congr 1
          exact decide_eq_decide.mpr ⟨V.int.inj, congrArg V.int⟩
        rw [e2]
        exact k
theorem ok_is_link (d : Dn K mg) (B : Bn mg) : FnOk P w K mg base CX0 2 d.f_is_link d.fd_is_link ["_law_many", "_law_thing"] spIsLink := by
  have G_is_int := ok_is_int (P := P) (w := w) (base := base) d B
  refine d.D_is_link.F.ok sc_law_is_link (fun vs H Q E h => ?_) (fun cdv A outer s H vs Q E hr h => ?_)
  · obtain ⟨x, dd, m, rfl, _⟩ := h
    rfl
  · obtain ⟨x, dd, m, rfl, hx, k⟩ := h
    refine ⟨_, PSs.nox ((pss_cons (ps_if (PW.pt (pw_or (pt_not (pt_val (pe_callB call_isi (by rfl) B.isi boot_isinstance (pa_cons (pv 1) (pa_cons (pe_bltn (v := .ty "tuple") (by rfl) B.tup (by decide +kernel) rfl) pa_nil))))) (pw_or (pt_cmpR op_ne (pe_callB call_len_seq (by rfl) B.len PySem.boot_len (pa_cons (pv 1) pa_nil)) pe_int (nomark _)) (pw_or1 (pt_not (pt_val (pe_callB (cr_all rfl) (by rfl) B.all boot_all (pa_cons (pe_lc (own := [("_law_one", 2)]) (g := gName 2) (tt := tYes) (te := tCall spIsInt [] E0 (tCons (tVar 2) (tCons (tC (.int 0)) (tCons (tOp (rI0 fun i j => .int (i - j)) (tVar 0) (tC (.int 1))) tNil)))) rfl sc_law_is_link.nd (pi_tup (pv 1))
        (blkOk_by (N := ["_law_many", "_law_thing", "_law_one"]) (sc := defScope s_law_is_link) (by decide +kernel)) (fun _ _ _ _ _ => pg_name (i := 2) sc_law_is_link.nd rfl (Or.inl rfl)) (fun _ _ _ _ _ => pts_nil)
        (fun _ _ _ _ _ => (pe_call G_is_int (hr.mono (by decide)) (by rfl) d.D_is_int.g d.D_is_int.F.kp d.D_is_int.b .nil pass0 (pa_cons (pv 2) (pa_cons pe_int (pa_cons (pe_op op_sub (pv 0) pe_int) pa_nil)))))) pa_nil))))))))
      (pss_one (ps_ret pe_bl)) pss_nil)
      (pss_one (ps_ret (pe_cmpR op_ne (pe_ix ix_tup (pv 1) pe_int (fun _ _ => rfl)) (pe_ix ix_tup (pv 1) pe_int (fun _ _ => rfl)) (nomark _)))))), ?_⟩
    refine ⟨_, rfl, x, _, _, _, _, rfl, .ty _, hx.tyx, kit_tup dd, _, rfl, ?_⟩
    have k0 := k H (Same.refl _)
    cases hx with
    | non => exact iteT k0
    | str y => exact iteT k0
    | lst h1 h2 => exact iteT k0
    | dic h1 => exact iteT k0
    | bl b => exact iteT k0
    | int i => exact iteT k0
    | @tup a vs ds ha hs hl =>
      refine iteF ⟨_, rfl, a, vs, rfl, Or.inr (SqT.of ha), rfl, _, rfl, ?_⟩
      match vs, ds, hs with
      | [], _, .nil => exact k0
      | [_], _, .cons _ .nil => exact k0
      | y1 :: y2 :: y3 :: ys, _, .cons _ (.cons _ (.cons _ _)) =>
        refine ite2 (fun _ => iteT k0) (fun hne => (hne ?_).elim)
        have e : decide (V.int ((y1 :: y2 :: y3 :: ys).length : Int) = V.int 2) = false := decide_eq_false fun z => by
          have z2 : ((y1 :: y2 :: y3 :: ys).length : Int) = 2 := V.int.inj z
          rw [List.length_cons, List.length_cons, List.length_cons] at z2
          omega
        rw [e]
        rfl
      | [x1, x2], _, .cons (d := d1) h1 (.cons (d := d2) h2 .nil) =>
        refine iteF ?_
        refine ⟨_, rfl, a, rfl, ⟨_, SqT.of ha⟩, fun D nD => lc_tup (K := K) (a := a) (xs := [x1, x2]) (fun i H2 => Same H H2 ∧ H2 D = some (.lst ((([d1, d2].take i).map fun e => V.bl (isBt e 0 (m - 1))))))
          ⟨sameNew nD, upd_same⟩ (fun i H2 _ h6 => SqT.of (h6.1 _ _ ha)) (fun i x H2 hx2 h6 => ?_) (fun H2 h6 => ?_)⟩
        · obtain ⟨s6, hD⟩ := h6
          have both : ThAll H [x1, x2] [d1, d2] := .cons h1 (.cons h2 .nil)
          obtain ⟨e, he, hxe⟩ := both.get hx2
          refine ⟨rfl, _, rfl, _, rfl, m, 1, rfl, rfl, x, e, 0, m - 1, rfl, hxe.keep s6, _, hD, ?_, samePut s6 nD, ?_⟩
          · rw [List.length_map, List.length_take]
            exact Nat.lt_of_le_of_lt (Nat.min_le_right _ _) (by show 2 < sizeLine; decide)
          · rw [upd_same, takeSucc [d1, d2] he, List.map_append]
            rfl
        · obtain ⟨s6, hD⟩ := h6
          refine ⟨D, [isBt d1 0 (m - 1), isBt d2 0 (m - 1)], rfl, SqL.of hD, _, rfl, ?_⟩
          have k2 := k H2 s6
          have e : isPr (.tuple [d1, d2]) m = (isBt d1 0 (m - 1) && (isBt d2 0 (m - 1) && neI d1 d2)) := rfl
          rw [e] at k2
          cases hb1 : isBt d1 0 (m - 1) with
          | false =>
            rw [hb1] at k2
            exact k2
          | true =>
          cases hb2 : isBt d2 0 (m - 1) with
          | false =>
            rw [hb1, hb2] at k2
            exact k2
          | true =>
          rw [hb1, hb2, Bool.true_and, Bool.true_and] at k2
          obtain ⟨i1, rfl, _, _⟩ := isBt_int hb1
          obtain ⟨i2, rfl, _, _⟩ := isBt_int hb2
          cases h1
          cases h2
          refine iteF ?_
          refine ⟨_, rfl, a, _, 0, _, rfl, rfl, SqT.of (s6 _ _ ha), rfl, _, rfl, a, _, 1, _, rfl, rfl, SqT.of (s6 _ _ ha), rfl, rfl, ?_⟩
          have e2 : (!decide (V.int i1 = V.int i2)) = neI (.int i1) (.int i2) := by
            show (!decide (V.int i1 = V.int i2)) = !decide (i1 = i2)
            congr 1
            exact decide_eq_decide.mpr ⟨V.int.inj, congrArg V.int⟩
          rw [e2]
          exact k2
theorem ok_wrong (d : Dn K mg) (B : Bn mg) : FnOk P w K mg base CX0 3 d.f_wrong d.fd_wrong ["_law_many", "_law_root", "_law_links"] spWrong := by
  have G_is_int := ok_is_int (P := P) (w := w) (base := base) d B
  have G_is_link := ok_is_link (P := P) (w := w) (base := base) d B
  refine d.D_wrong.F.ok sc_law_wrong (fun vs H Q E h => ?_) (fun cdv A outer s H vs Q E hr h => ?_)
  · obtain ⟨x, y, z, dx, dy, dz, rfl, _⟩ := h
    rfl
  · obtain ⟨x, y, z, dx, dy, dz, rfl, hx, hy, hz, k⟩ := h
    refine ⟨_, PSs.nox ((pss_cons (ps_if (pt_not (pt_val (pe_call G_is_int (hr.mono (by decide)) (by rfl) d.D_is_int.g d.D_is_int.F.kp d.D_is_int.b .nil pass0 (pa_cons (pv 0) (pa_cons pe_int (pa_cons pe_int pa_nil))))))
      (pss_one (ps_ret pe_str)) pss_nil)
      (pss_cons (ps_if (pt_not (pt_val (pe_call G_is_int (hr.mono (by decide)) (by rfl) d.D_is_int.g d.D_is_int.F.kp d.D_is_int.b .nil pass0 (pa_cons (pv 1) (pa_cons pe_int (pa_cons (pe_op op_sub (pv 0) pe_int) pa_nil))))))
      (pss_one (ps_ret pe_str)) pss_nil)
      (pss_cons (ps_if (PW.pt (pw_or (pt_not (pt_val (pe_callB call_isi (by rfl) B.isi boot_isinstance (pa_cons (pv 2) (pa_cons (pe_bltn (v := .ty "tuple") (by rfl) B.tup (by decide +kernel) rfl) pa_nil))))) (pw_or1 (pt_cmpR op_gt (pe_callB call_len_seq (by rfl) B.len PySem.boot_len (pa_cons (pv 2) pa_nil)) pe_int (nomark _)))))
      (pss_one (ps_ret pe_str)) pss_nil)
      (pss_cons (ps_for PassesOwn.never rfl (pi_enumT (by rfl) B.enm (pa_cons (pv 2) pa_nil)) (pg_tup (by rfl) (pgs_cons (pg_name (i := 3) sc_law_wrong.nd rfl (Or.inl rfl)) (pgs_cons (pg_name (i := 4) sc_law_wrong.nd rfl (Or.inl rfl)) pgs_nil)))
      (pss_one (ps_if (pt_not (pt_val (pe_call G_is_link (hr.mono (by decide)) (by rfl) d.D_is_link.g d.D_is_link.F.kp d.D_is_link.b .nil pass0 (pa_cons (pv 0) (pa_cons (pv 4) pa_nil)))))
      (pss_one (ps_ret (pv 3))) pss_nil)))
      (pss_one (ps_ret pe_non))))))), ?_⟩
    refine ⟨_, rfl, x, dx, 2, 10, rfl, hx, _, rfl, ?_⟩
    have k0 := k H (Same.refl _)
    cases hb : isBt dx 2 10 with
    | false =>
      rw [wv_many hb] at k0
      exact iteT k0
    | true =>
    obtain ⟨mi, rfl, m0, m1⟩ := isBt_int hb
    cases hx
    refine iteF ?_
    refine ⟨_, rfl, _, rfl, mi, 1, rfl, rfl, y, dy, 0, mi - 1, rfl, hy, _, rfl, ?_⟩
    cases hb2 : isBt dy 0 (mi - 1) with
    | false =>
      rw [wv_root hb hb2] at k0
      exact iteT k0
    | true =>
    refine iteF ?_
    refine ⟨_, rfl, z, _, _, _, _, rfl, .ty _, hz.tyx, kit_tup dz, _, rfl, ?_⟩
    cases hz
    case non => exact iteT (by rw [wv_links hb hb2 rfl] at k0; exact k0)
    case str => exact iteT (by rw [wv_links hb hb2 rfl] at k0; exact k0)
    case lst => exact iteT (by rw [wv_links hb hb2 rfl] at k0; exact k0)
    case dic => exact iteT (by rw [wv_links hb hb2 rfl] at k0; exact k0)
    case bl => exact iteT (by rw [wv_links hb hb2 rfl] at k0; exact k0)
    case int => exact iteT (by rw [wv_links hb hb2 rfl] at k0; exact k0)
    rename_i a vs ds ha hs hl
    refine iteF ⟨_, rfl, a, vs, rfl, Or.inr (SqT.of ha), _, 60, rfl, rfl, _, rfl, ?_⟩
    refine ite2 (fun h60 => ?_) (fun h60 => ?_)
    · have h60b : 60 < ds.length := by
        have := of_decide_eq_true h60
        rw [← hs.length]
        omega
      rw [wv_long hb hb2 h60b] at k0
      exact k0
    have n60 : ¬ 60 < ds.length := fun z => h60 (decide_eq_true (by rw [hs.length]; omega))
    refine ⟨_, rfl, a, vs, rfl, SqT.of ha, for_it (walk_enumT (K := K) (a := a) (xs := vs)) (fun i σ2 H2 => ∃ (v3 v4 : Option V), σ2 = [some (.int mi), some y, some (.ref a), v3, v4] ∧ Same H H2 ∧ firstBad mi ds 0 = firstBad mi (ds.drop i) i)
      ⟨none, none, rfl, Same.refl _, rfl⟩ (fun i σ2 H2 _ ⟨_, _, _, s2, _⟩ => s2 _ _ ha) ?_ ?_⟩
    · rintro i v σ2 H2 H3 hi ⟨v3, v4, rfl, s2, hf⟩ ⟨T, i2, l, rfl, nT, rfl, ei, el⟩
      cases ei
      obtain ⟨dl, hdl, hl2⟩ := hs.get el
      obtain ⟨f1, f2⟩ := firstBad_drop hf hdl
      have sT := s2.trans (sameNew (o := HO.tup [.int (i : Int), l]) nT)
      refine ⟨T, _, rfl, SqT.of upd_same, rfl, _, _, rfl, _, _, rfl, rfl, ?_⟩
      refine ⟨_, rfl, _, rfl, l, dl, mi, rfl, hl2.keep sT, fun H4 s4 => ⟨_, rfl, ?_⟩⟩
      cases hp : isPr dl mi with
      | false =>
        have k4 := k H4 (sT.trans s4)
        rw [wv_item hb hb2 n60 (f2 hp)] at k4
        exact iteT ⟨_, rfl, k4⟩
      | true => exact iteF ⟨_, _, rfl, sT.trans s4, f1 hp⟩
    · rintro σ2 H2 ⟨v3, v4, rfl, s2, hf⟩
      have k4 := k H2 s2
      have e : ds.drop vs.length = [] := by rw [hs.length]; exact List.drop_length
      rw [e] at hf
      rw [wv_none hb hb2 n60 hf] at k4
      exact k4
end
end K01
namespace K01
open PySem PySem.Spec PyProof.Rows L2 Kv
/-! ### class Net, need_net, every_link -/
/-- a class over ValueError with the one field f -/
structure CI (K : PySem.W.Frag) (x f : Str) (fI : Addr) : Prop where
  ox : OexC K (He.ga K x)
  xf : XfC K (He.ga K x)
  ini : PySem.W.findIn K (.ref (He.ga K x)) "__init__" = some (some (.ref fI))
  fn : PySem.W.typeIn K (.ref fI) = some (.type "function")
  no : PySem.W.findIn K (.ref (He.ga K x)) f = some none
def tyNames : List String := ["NoneType", "bool", "int", "str", "list", "tuple", "dict"]
structure Nk (K : PySem.W.Frag) (mg : Str → Option Value) (d : Dn K mg) : Prop where
  ciB : CI K "BadNet" "part" d.f_BadNet___init__
  gB : mg "BadNet" = some (.ref (He.ga K "BadNet"))
  gT : mg "TreeError" = some (.ref (He.ga K "TreeError"))
  gN : mg "Net" = some (.ref (He.ga K "Net"))
  gNo : mg "NoNet" = some (.ref (He.ga K "NoNet"))
  c2 : ∃ t, mg "FEWEST_PLACES" = some (.int 2 t)
  c10 : ∃ t, mg "MOST_PLACES" = some (.int 10 t)
  c60 : ∃ t, mg "MOST_LINKS" = some (.int 60 t)
  cls : Cls K (He.ga K "Net")
  nm : NoAttr K (He.ga K "Net") "many"
  nr : NoAttr K (He.ga K "Net") "root"
  nl : NoAttr K (He.ga K "Net") "links"
  mkN : Mk K (He.ga K "Net") d.f_Net___init__
  ca : PySem.W.findIn K (.ref (He.ga K "Net")) "__class__" = some (some (.builtin "object.__class__"))
  cn : PySem.W.specialIn K (.builtin "object.__class__") "__get__" = some (some (.builtin "getset_descriptor.__get__"))
  ct : PySem.W.takesIn K (.builtin "object.__class__") = some true
  cm : PySem.W.mroIn K (He.ga K "Net") (.type "object") = some true
  kit : ∀ t ∈ tyNames, PySem.W.kitOne K (.type t) (.ref (He.ga K "Net")) = some false
  xN : PySem.W.excIn K (He.ga K "NoNet") He.veBase "ValueError.__new__" = true
  kN : PySem.W.keepIn K (.ref (He.ga K "NoNet")) = true
  sN : PySem.W.subIn K (.ref (He.ga K "NoNet")) (.type "BaseException") = some true
  tN : PySem.W.typeIn K (.ref (He.ga K "NoNet")) = some (.type "type")
theorem tyNm_mem (d : PyData) : tyNm d ∈ tyNames := by cases d <;> simp [tyNm, tyNames]
def spI (f : Str) (C : Addr) : Sp := fun vs H Q _ => ∃ (a : Addr) (v : V), vs = [.ref a, v] ∧ H a = some (exo a C none) ∧ ∀ d, H d = none → d ≠ a → Q .non (upd (upd H d (exd d [(f, v)])) a (exo a C (some d)))
/-- Net(..)'s fields -/
def netF (x y z : V) : List (Str × V) := putF "links" z (putF "root" y (putF "many" x []))
def spNetI (C CB : Addr) : Sp := fun vs H Q E => ∃ (a dx : Addr) (x y z : V) (ex ey ez : PyData), vs = [.ref a, x, y, z] ∧ H a = some (.ins C dx []) ∧ Th H x ex ∧ Th H y ey ∧ Th H z ez ∧
  (wrongV ex ey ez = .non → ∀ H2, Same H H2 → Q .non (upd H2 a (.ins C dx (netF x y z)))) ∧
  (wrongV ex ey ez ≠ .non → ∀ dd H2 fs, Same H H2 → H2 dd = some (.xd fs) → fs.lookup ("part" : Str) = some (wrongV ex ey ez) → E (.ref CB) (some dd) H2)
/-- need_net(x): x the thing, or a Net -/
def IsNet (C : Addr) (H : Hp) (x : V) : Prop := ∃ a dx fs, x = .ref a ∧ H a = some (.ins C dx fs)
def spNeed (C CN : Addr) : Sp := fun vs H Q E => ∃ x, vs = [x] ∧ ((IsNet C H x ∧ Q .non H) ∨ ((∃ d, Th H x d) ∧ ∀ H2, Same H H2 → E (.ref CN) none H2))
section
variable {P : Program} {w : World} {K : PySem.W.Frag} {mg : Str → Option Value} {base : Heap}
theorem ok_IBadNet (d : Dn K mg) (N : Nk K mg d) : FnOk P w K mg base CX0 1 d.f_BadNet___init__ d.fd_BadNet___init__ ["self", "part"] (spI "part" (He.ga K "BadNet")) := by
  refine d.D_BadNet___init__.ok scBadNet___init__ (fun vs H Q E h => ?_) (fun cdv A outer s H vs Q E hr h => ⟨_, PSs.nox (pss_one (ps_ost (pv 0) (pv 1) rfl)), ?_⟩)
  · obtain ⟨a, v, rfl, _⟩ := h
    rfl
  · obtain ⟨a, v, rfl, ha, k⟩ := h
    exact ⟨_, rfl, _, rfl, a, _, rfl, N.ciB.ox, N.ciB.no, Or.inl ⟨ha, fun d hd hn => k d hd hn⟩⟩
theorem raiseBad {H1 : Hp} {v : V} {C : Addr} {Q : XK} (k : ∀ dd H2 fs, Same H1 H2 → H2 dd = some (.xd fs) → fs.lookup ("part" : Str) = some v → Q (.ref C) (some dd) H2) : ∀ e, H1 e = none → spI "part" C (.ref e :: ([v] ++ [])) (upd H1 e (exo e C none))
    (fun v H2 => v = .non ∧ ∃ (d : Addr) (fs : List (Str × V)), H2 e = some (exo e C (some d)) ∧ H2 d = some (exd d fs) ∧ H1 d = none ∧ Q (.ref C) (some d) (upd (del H2 e) d (.xd fs))) (fun _ _ _ => False) := by
  intro e ne
  refine ⟨e, v, rfl, upd_same, fun d hd hn => ⟨rfl, d, [("part", v)], upd_same, by rw [upd_ne hn, upd_same], ?_, ?_⟩⟩
  · rw [upd_ne hn] at hd
    exact hd
  · rw [upd_ne hn] at hd
    refine k d _ [("part", v)] (fun b u hb => ?_) upd_same rfl
    have b1 : b ≠ e := ne_of_none hb ne
    have b2 : b ≠ d := ne_of_none hb hd
    rw [upd_ne b2, del_ne b1, upd_ne b1, upd_ne b2, upd_ne b1]
    exact hb
theorem ok_INet (d : Dn K mg) (B : Bn mg) (N : Nk K mg d) : FnOk P w K mg base (L2.CX P w) 4 d.f_Net___init__ d.fd_Net___init__ ["self", "many", "root", "links"] (spNetI (He.ga K "Net") (He.ga K "BadNet")) := by
  have G_bad := ok_IBadNet (P := P) (w := w) (base := base) d N
  have G_is_between := ok_is_between (P := P) (w := w) (base := base) d B
  have G_is_unlike_pair := ok_is_unlike_pair (P := P) (w := w) (base := base) d B
  obtain ⟨t2, g2⟩ := N.c2
  obtain ⟨t10, g10⟩ := N.c10
  obtain ⟨t60, g60⟩ := N.c60
  refine d.D_Net___init__.ok (CX := L2.CX P w) scNet___init__ (fun vs H Q E h => ?_) (fun cdv A outer s H vs Q E hr h => ?_)
  · obtain ⟨a, dx, x, y, z, ex, ey, ez, rfl, _⟩ := h
    rfl
  · obtain ⟨a, dx, x, y, z, ex, ey, ez, rfl, ha, hx, hy, hz, k1, k2⟩ := h
    refine ⟨_, (pss_cons (ps_if (pt_not (pt_val (pe_call G_is_between (hr.mono (by decide)) (by rfl) d.D_is_between.g d.D_is_between.F.kp d.D_is_between.b .nil pass0 (pa_cons (pv 1) (pa_cons (pe_glob (v := .int 2) (by rfl) g2 ⟨_, rfl⟩) (pa_cons (pe_glob (v := .int 10) (by rfl) g10 ⟨_, rfl⟩) pa_nil))))))
      (pss_one (ps_raise rfl (takes_of rfl rfl rfl rfl) (pmk_oex N.ciB.ox N.ciB.ini N.ciB.fn G_bad (hr.mono (by decide)) d.b_BadNet___init__ .nil pass0 (by rfl) N.gB (pa_cons pe_str pa_nil)))) pss_nil)
      (pss_cons (ps_if (pt_not (pt_val (pe_call G_is_between (hr.mono (by decide)) (by rfl) d.D_is_between.g d.D_is_between.F.kp d.D_is_between.b .nil pass0 (pa_cons (pv 2) (pa_cons pe_int (pa_cons (pe_op op_sub (pv 1) pe_int) pa_nil))))))
      (pss_one (ps_raise rfl (takes_of rfl rfl rfl rfl) (pmk_oex N.ciB.ox N.ciB.ini N.ciB.fn G_bad (hr.mono (by decide)) d.b_BadNet___init__ .nil pass0 (by rfl) N.gB (pa_cons pe_str pa_nil)))) pss_nil)
      (pss_cons (ps_if (PW.pt (pw_or (pt_not (pt_val (pe_callB call_isi (by rfl) B.isi boot_isinstance (pa_cons (pv 3) (pa_cons (pe_bltn (v := .ty "tuple") (by rfl) B.tup (by decide +kernel) rfl) pa_nil))))) (pw_or1 (pt_cmpR op_gt (pe_callB call_len_seq (by rfl) B.len PySem.boot_len (pa_cons (pv 3) pa_nil)) (pe_glob (v := .int 60) (by rfl) g60 ⟨_, rfl⟩) (nomark _)))))
      (pss_one (ps_raise rfl (takes_of rfl rfl rfl rfl) (pmk_oex N.ciB.ox N.ciB.ini N.ciB.fn G_bad (hr.mono (by decide)) d.b_BadNet___init__ .nil pass0 (by rfl) N.gB (pa_cons pe_str pa_nil)))) pss_nil)
      (pss_cons (ps_for (passes_of rfl) rfl (pi_enumT (by rfl) B.enm (pa_cons (pv 3) pa_nil)) (pg_tup (by rfl) (pgs_cons (pg_name (i := 4) scNet___init__.nd rfl (Or.inl rfl)) (pgs_cons (pg_name (i := 5) scNet___init__.nd rfl (Or.inl rfl)) pgs_nil)))
      (pss_one (ps_if (pt_not (pt_val (pe_call G_is_unlike_pair (hr.mono (by decide)) (by rfl) d.D_is_unlike_pair.g d.D_is_unlike_pair.F.kp d.D_is_unlike_pair.b .nil pass0 (pa_cons (pv 5) (pa_cons (pv 1) pa_nil)))))
      (pss_one (ps_raise rfl (takes_of rfl rfl rfl rfl) (pmk_oex N.ciB.ox N.ciB.ini N.ciB.fn G_bad (hr.mono (by decide)) d.b_BadNet___init__ .nil pass0 (by rfl) N.gB (pa_cons (pv 4) pa_nil)))) pss_nil)))
      (pss_cons (ps_fld (pv 0) (pv 1) (by rfl))
      (pss_cons (ps_fld (pv 0) (pv 2) (by rfl))
      (pss_one (ps_fld (pv 0) (pv 3) (by rfl))))))))), ?_⟩
    have bad : ∀ {H1 : Hp} {v : V}, Same H H1 → wrongV ex ey ez = v → v ≠ .non → ∀ dd H2 fs, Same H1 H2 → H2 dd = some (.xd fs) → fs.lookup ("part" : Str) = some v → E (.ref (He.ga K "BadNet")) (some dd) H2 := fun {H1 v} s1 e n dd H2 fs s2 h2 hl =>
      k2 (by rw [e]; exact n) dd H2 fs (s1.trans s2) h2 (by rw [e]; exact hl)
    refine ⟨_, rfl, x, ex, 2, 10, rfl, hx, _, rfl, ?_⟩
    cases hb : isBt ex 2 10 with
    | false => exact iteT ⟨by show 1 ≤ 1000; decide, raiseBad (bad (Same.refl _) (wv_many hb) (fun z => nomatch z))⟩
    | true =>
    obtain ⟨mi, rfl, m0, m1⟩ := isBt_int hb
    cases hx
    refine iteF ?_
    refine ⟨_, rfl, _, rfl, mi, 1, rfl, rfl, y, ey, 0, mi - 1, rfl, hy, _, rfl, ?_⟩
    cases hb2 : isBt ey 0 (mi - 1) with
    | false => exact iteT ⟨by show 1 ≤ 1000; decide, raiseBad (bad (Same.refl _) (wv_root hb hb2) (fun z => nomatch z))⟩
    | true =>
    refine iteF ?_
    refine ⟨_, rfl, z, _, _, _, _, rfl, .ty _, hz.tyx, kit_tup ez, _, rfl, ?_⟩
    cases hz
    case non => exact iteT ⟨by show 1 ≤ 1000; decide, raiseBad (bad (Same.refl _) (wv_links hb hb2 rfl) (fun z => nomatch z))⟩
    case str => exact iteT ⟨by show 1 ≤ 1000; decide, raiseBad (bad (Same.refl _) (wv_links hb hb2 rfl) (fun z => nomatch z))⟩
    case lst => exact iteT ⟨by show 1 ≤ 1000; decide, raiseBad (bad (Same.refl _) (wv_links hb hb2 rfl) (fun z => nomatch z))⟩
    case dic => exact iteT ⟨by show 1 ≤ 1000; decide, raiseBad (bad (Same.refl _) (wv_links hb hb2 rfl) (fun z => nomatch z))⟩
    case bl => exact iteT ⟨by show 1 ≤ 1000; decide, raiseBad (bad (Same.refl _) (wv_links hb hb2 rfl) (fun z => nomatch z))⟩
    case int => exact iteT ⟨by show 1 ≤ 1000; decide, raiseBad (bad (Same.refl _) (wv_links hb hb2 rfl) (fun z => nomatch z))⟩
    rename_i l vs ds hl0 hs hl
    refine iteF ⟨_, rfl, l, vs, rfl, Or.inr (SqT.of hl0), _, 60, rfl, rfl, _, rfl, ?_⟩
    refine ite2 (fun h60 => ?_) (fun h60 => ?_)
    · have h60b : 60 < ds.length := by
        have := of_decide_eq_true h60
        rw [← hs.length]
        omega
      exact ⟨by show 1 ≤ 1000; decide, raiseBad (bad (Same.refl _) (wv_long hb hb2 h60b) (fun z => nomatch z))⟩
    have n60 : ¬ 60 < ds.length := fun z => h60 (decide_eq_true (by rw [hs.length]; omega))
    refine ⟨_, rfl, l, vs, rfl, SqT.of hl0, for_it (walk_enumT (K := K) (a := l) (xs := vs)) (fun i σ2 H2 => ∃ (v4 v5 : Option V), σ2 = [some (.ref a), some (.int mi), some y, some (.ref l), v4, v5] ∧ Same H H2 ∧ firstBad mi ds 0 = firstBad mi (ds.drop i) i)
      ⟨none, none, rfl, Same.refl _, rfl⟩ (fun i σ2 H2 _ ⟨_, _, _, s2, _⟩ => s2 _ _ hl0) ?_ ?_⟩
    · rintro i v σ2 H2 H3 hi ⟨v4, v5, rfl, s2, hf⟩ ⟨T, i2, lk, rfl, nT, rfl, ei, el⟩
      cases ei
      obtain ⟨dl, hdl, hl2⟩ := hs.get el
      obtain ⟨f1, f2⟩ := firstBad_drop hf hdl
      have sT := s2.trans (sameNew (o := HO.tup [.int (i : Int), lk]) nT)
      refine ⟨T, _, rfl, SqT.of upd_same, rfl, _, _, rfl, _, _, rfl, rfl, ?_⟩
      refine ⟨_, rfl, _, rfl, lk, dl, mi, rfl, hl2.keep sT, _, rfl, ?_⟩
      cases hp : isPr dl mi with
      | false => exact iteT ⟨_, rfl, by show 1 ≤ 1000; decide, raiseBad (bad sT (wv_item hb hb2 n60 (f2 hp)) (fun z => nomatch z))⟩
      | true => exact iteF ⟨_, _, rfl, sT, f1 hp⟩
    · rintro σ2 H2 ⟨v4, v5, rfl, s2, hf⟩
      have e : ds.drop vs.length = [] := by rw [hs.length]; exact List.drop_length
      rw [e] at hf
      refine ⟨_, rfl, _, rfl, a, _, dx, [], rfl, s2 _ _ ha, N.cls, N.nm, by show 0 < 1000; decide, ?_⟩
      refine ⟨_, rfl, _, rfl, a, _, dx, _, rfl, upd_same, N.cls, N.nr, by show 1 < 1000; decide, ?_⟩
      refine ⟨_, rfl, _, rfl, a, _, dx, _, rfl, upd_same, N.cls, N.nl, by show 2 < 1000; decide, ?_⟩
      show Q .non _
      rw [upd_upd, upd_upd]
      exact k1 (wv_none hb hb2 n60 hf) H2 s2
theorem ok_need (d : Dn K mg) (B : Bn mg) (N : Nk K mg d) : FnOk P w K mg base (L2.CX P w) 1 d.f_need_net d.fd_need_net ["thing"] (spNeed (He.ga K "Net") (He.ga K "NoNet")) := by
  refine d.D_need_net.F.ok (CX := L2.CX P w) scneed_net (fun vs H Q E h => ?_) (fun cdv A outer s H vs Q E hr h => ?_)
  · obtain ⟨x, rfl, _⟩ := h
    rfl
  · obtain ⟨x, rfl, h⟩ := h
    refine ⟨_, (pss_one (ps_if (pt_not (pt_val (pe_callB call_isi (by rfl) B.isi boot_isinstance (pa_cons (pv 0) (pa_cons (pe_glob (v := .ref (He.ga K "Net")) (by rfl) N.gN rfl) pa_nil)))))
      (pss_one (ps_raise rfl (takes_of rfl rfl rfl rfl) (pmk_ret rfl (pe_exc0 PySem.F.excBase_ValueError N.xN N.gNo N.kN (by rfl))))) pss_nil)), ?_⟩
    rcases h with ⟨⟨a, dx, fs, rfl, ha⟩, q⟩ | ⟨⟨dd, hx⟩, hE⟩
    · have e : PySem.W.kitOne K (.ref (He.ga K "Net")) (.ref (He.ga K "Net")) = some true := if_pos (beq_self_eq_true _)
      exact ⟨_, rfl, _, _, _, _, _, rfl, .own _, .base (.ins ha N.cls N.ca N.cn N.ct N.cm), e, _, rfl, iteF q⟩
    · refine ⟨_, rfl, x, _, _, _, _, rfl, .own _, hx.tyx, N.kit _ (tyNm_mem dd), _, rfl, iteT ?_⟩
      intro a na
      refine ⟨a, _, rfl, upd_same, fr0_none na, raises_own N.sN N.tN, ?_⟩
      rw [delH_new na]
      exact hE H (Same.refl _)
end
end K01
namespace K01
open PySem PySem.Spec PyProof.Rows L2 Kv
/-! ### Net.__eq__, every_link; _law_is, _law_told -/
structure Nk2 (K : PySem.W.Frag) (mg : Str → Option Value) (d : Dn K mg) : Prop extends Nk K mg d where
  eqN : PySem.W.findIn K (.ref (He.ga K "Net")) "__eq__" = some (some (.ref d.f_Net___eq__))
  eqF : PySem.W.isFn K (.ref d.f_Net___eq__) = true
  neN : PySem.W.findIn K (.ref (He.ga K "Net")) "__ne__" = some (some (.builtin "object.__ne__"))
  nf : ∀ t ∈ tyNames, PySem.W.notFirst K (He.ga K "Net") (.type t) = true
  exB : PySem.W.exmOne K (.ref (He.ga K "BadNet")) (.ref (He.ga K "BadNet")) = some true
  exN : PySem.W.exmOne K (.ref (He.ga K "NoNet")) (.ref (He.ga K "NoNet")) = some true
  erB : errB K (He.ga K "BadNet") = true
  kTB : PySem.W.kitOne K (.ref (He.ga K "BadNet")) (.ref (He.ga K "TreeError")) = some true
  kVB : PySem.W.kitOne K (.ref (He.ga K "BadNet")) (.type "ValueError") = some true
  ve : mg "ValueError" = none
/-- at a: a right net -/
structure NetOb (C : Addr) (H : Hp) (a : Addr) (m r : Int) (l : Addr) (ws : List V) (ds : List PyData) : Prop where
  ob : ∃ dx, H a = some (.ins C dx (netF (.int m) (.int r) (.ref l)))
  at_ : H l = some (.tup ws)
  all : ThAll H ws ds
  ok : Right m r ds
  wl : ws.length ≤ 100
theorem NetOb.keep {C : Addr} {H H2 : Hp} {a : Addr} {m r : Int} {l : Addr} {ws : List V} {ds : List PyData} (s : Same H H2) (h : NetOb C H a m r l ws ds) : NetOb C H2 a m r l ws ds := by
  obtain ⟨dx, e⟩ := h.ob
  exact ⟨⟨dx, s _ _ e⟩, s _ _ h.at_, h.all.keep s, h.ok, h.wl⟩
theorem NetOb.links {C : Addr} {H : Hp} {a : Addr} {m r : Int} {l : Addr} {ws : List V} {ds : List PyData} (h : NetOb C H a m r l ws ds) : Th H (.ref l) (.tuple ds) := .tup h.at_ h.all h.wl
abbrev netD (m r : Int) (ds : List PyData) : PyData := .tuple [.int m, .int r, .tuple ds]
def spEqN (C : Addr) : Sp := fun vs H Q _ => ∃ (a l : Addr) (m r : Int) (ws : List V) (ds : List PyData) (y : V), vs = [.ref a, y] ∧ NetOb C H a m r l ws ds ∧
  ((∃ (b l2 : Addr) (m2 r2 : Int) (ws2 : List V) (ds2 : List PyData), y = .ref b ∧ NetOb C H b m2 r2 l2 ws2 ds2 ∧ Q (.bl (PyData.eqv (netD m r ds) (netD m2 r2 ds2))) H) ∨ ((∃ e, Th H y e) ∧ Q (.bl false) H))
def spEvery (C CN : Addr) : Sp := fun vs H Q E => ∃ x, vs = [x] ∧ ((∃ (a l : Addr) (m r : Int) (ws : List V) (ds : List PyData), x = .ref a ∧ NetOb C H a m r l ws ds ∧ ∀ p, H p = none → Q (.ref p) (upd H p (.tup (rgV 0 ws.length)))) ∨
  ((∃ d, Th H x d) ∧ ∀ H2, Same H H2 → E (.ref CN) none H2))
def spTold (C : Addr) : Sp := fun vs H Q _ => ∃ (x y z : V) (ex ey ez : PyData), vs = [x, y, z] ∧ Th H x ex ∧ Th H y ey ∧ Th H z ez ∧
  (wrongV ex ey ez = .non → ∀ p n dx H2, Same H H2 → H2 p = some (.tup [.non, .ref n]) → H2 n = some (.ins C dx (netF x y z)) → Q (.ref p) H2) ∧
  (wrongV ex ey ez ≠ .non → ∀ p H2, Same H H2 → H2 p = some (.tup [wrongV ex ey ez, .non]) → Q (.ref p) H2)
def spIs (K : PySem.W.Frag) : Sp := fun vs H Q _ => ∃ (x y : V) (z : Str), vs = [x, y] ∧ Shows K H x z ∧ Shows K H y z ∧ Q (.bl true) H
section
variable {P : Program} {w : World} {K : PySem.W.Frag} {mg : Str → Option Value} {base : Heap}
theorem isNetY {d : Dn K mg} (N : Nk K mg d) {H : Hp} {b dx : Addr} {fs : List (Str × V)} {Q : VK} (h : H b = some (.ins (He.ga K "Net") dx fs)) (q : Q (.bl true) H) : rIsi K [.ref b, .ref (He.ga K "Net")] H Q :=
  ⟨_, _, _, _, _, rfl, .own _, .base (.ins h N.cls N.ca N.cn N.ct N.cm), if_pos (beq_self_eq_true _), q⟩
theorem isNetN {d : Dn K mg} (N : Nk K mg d) {H : Hp} {x : V} {e : PyData} {Q : VK} (h : Th H x e) (q : Q (.bl false) H) : rIsi K [x, .ref (He.ga K "Net")] H Q :=
  ⟨_, _, _, _, _, rfl, .own _, h.tyx, N.kit _ (tyNm_mem e), q⟩
theorem ok_eq (d : Dn K mg) (B : Bn mg) (N : Nk2 K mg d) : FnOk P w K mg base CX0 1 d.f_Net___eq__ d.fd_Net___eq__ ["self", "other"] (spEqN (He.ga K "Net")) := by
  refine d.D_Net___eq__.ok scNet___eq__ (fun vs H Q E h => ?_) (fun cdv A outer s H vs Q E hr h => ?_)
  · obtain ⟨a, l, m, r, ws, ds, y, rfl, _⟩ := h
    rfl
  · obtain ⟨a, l, m, r, ws, ds, y, rfl, hn, h⟩ := h
    refine ⟨_, PSs.nox ((pss_one (ps_ret (pe_and (pe_callB call_isi (by rfl) B.isi boot_isinstance (pa_cons (pv 1) (pa_cons (pe_glob (v := .ref (He.ga K "Net")) (by rfl) N.gN rfl) pa_nil))) (pe_and (pe_cmpR op_eq (pe_fld (pv 0) (by rfl)) (pe_fld (pv 1) (by rfl)) (nomark _)) (pe_and (pe_cmpR op_eq (pe_fld (pv 0) (by rfl)) (pe_fld (pv 1) (by rfl)) (nomark _)) (pe_one (pe_cmpR (op_eqD (show (A.deeper (envOfC "Net.__eq__" (defScope sNet___eq__) s.heap.objs.size d.f_Net___eq__ cdv)).units + 64 < cLine from by have := hr.un; omega)) (pe_fld (pv 0) (by rfl)) (pe_fld (pv 1) (by rfl)) (nomark _))))))))), ?_⟩
    obtain ⟨dx, ha⟩ := hn.ob
    rcases h with ⟨b, l2, m2, r2, ws2, ds2, rfl, hn2, q⟩ | ⟨⟨e, hy⟩, q⟩
    · obtain ⟨dx2, hb⟩ := hn2.ob
      refine ⟨_, rfl, _, _, _, _, _, rfl, .own _, .base (.ins hb N.cls N.ca N.cn N.ct N.cm), if_pos (beq_self_eq_true _), _, rfl, iteT ?_⟩
      have e : PyData.eqv (netD m r ds) (netD m2 r2 ds2) = ((m == m2) && ((r == r2) && PyData.eqv (.tuple ds) (.tuple ds2))) := by
        simp only [netD, PyData.eqv, PyData.eqvAll, Bool.and_true]
      rw [e] at q
      refine ⟨_, rfl, a, _, dx, _, _, rfl, ha, N.cls, N.nm, rfl, _, rfl, b, _, dx2, _, _, rfl, hb, N.cls, N.nm, rfl, rfl, _, rfl, ?_⟩
      have d1 := dec_int (i := m) (j := m2)
      cases hm : (m == m2) with
      | false =>
        rw [hm] at d1 q
        rw [d1]
        exact iteF q
      | true =>
      rw [hm] at d1 q
      rw [Bool.true_and] at q
      rw [d1]
      refine iteT ?_
      refine ⟨_, rfl, a, _, dx, _, _, rfl, ha, N.cls, N.nr, rfl, _, rfl, b, _, dx2, _, _, rfl, hb, N.cls, N.nr, rfl, rfl, _, rfl, ?_⟩
      have d2 := dec_int (i := r) (j := r2)
      cases hr2 : (r == r2) with
      | false =>
        rw [hr2] at d2 q
        rw [d2]
        exact iteF q
      | true =>
      rw [hr2] at d2 q
      rw [Bool.true_and] at q
      rw [d2]
      refine iteT ?_
      exact ⟨_, rfl, a, _, dx, _, _, rfl, ha, N.cls, N.nl, rfl, _, rfl, b, _, dx2, _, _, rfl, hb, N.cls, N.nl, rfl, .tuple ds, .tuple ds2, hn.links.dp hn.ok.neatL.nd, hn2.links.dp hn2.ok.neatL.nd, hn.ok.neatL.shaped (by decide), hn2.ok.neatL.shaped (by decide), q⟩
    · exact ⟨_, rfl, _, _, _, _, _, rfl, .own _, hy.tyx, N.kit _ (tyNm_mem e), _, rfl, iteF q⟩
theorem ok_every (d : Dn K mg) (B : Bn mg) (N : Nk K mg d) : FnOk P w K mg base (L2.CX P w) 2 d.f_every_link d.fd_every_link ["net"] (spEvery (He.ga K "Net") (He.ga K "NoNet")) := by
  have G_need := ok_need (P := P) (w := w) (base := base) d B N
  refine d.D_every_link.F.ok (CX := L2.CX P w) scevery_link (fun vs H Q E h => ?_) (fun cdv A outer s H vs Q E hr h => ?_)
  · obtain ⟨x, rfl, _⟩ := h
    rfl
  · obtain ⟨x, rfl, h⟩ := h
    refine ⟨_, (pss_cons (ps_expr (pe_call G_need (hr.mono (by decide)) (by rfl) d.D_need_net.g d.D_need_net.F.kp d.D_need_net.b .nil (passes_call (takes_of rfl rfl rfl rfl) (fun _ _ _ _ h => h)) (pa_cons (pv 0) pa_nil)))
      (pss_one (ps_ret (pe_tupRg rfl (by rfl) B.tup (prg_1 (by rfl) B.rng (pe_callB call_len_seq (by rfl) B.len PySem.boot_len (pa_cons (pe_fld (pv 0) (by rfl)) pa_nil))))))), ?_⟩
    rcases h with ⟨a, l, m, r, ws, ds, rfl, hn, k⟩ | ⟨hx, hE⟩
    · obtain ⟨dx, ha⟩ := hn.ob
      refine ⟨_, rfl, _, rfl, Or.inl ⟨⟨a, dx, _, rfl, ha⟩, ?_⟩⟩
      exact ⟨_, rfl, a, _, dx, _, _, rfl, ha, N.cls, N.nl, rfl, l, ws, rfl, Or.inr (SqT.of hn.at_), _, rfl, RgOk.of_le (Int.le_refl _) (by have := hn.wl; omega) (by decide) (by omega), fun q nq => k q nq⟩
    · exact ⟨_, rfl, x, rfl, Or.inr ⟨hx, hE⟩⟩
theorem ok_is (d : Dn K mg) (B : Bn mg) : FnG P w K mg base 1 d.f_is d.fd_is ["_law_told_here", "_law_due"] (spIs K) := by
  refine okG d.D_is.F sc_law_is (fun vs H Q E h => ?_) (fun cdv A outer s H vs Q E hg hr h => ?_)
  · obtain ⟨x, y, z, rfl, _⟩ := h
    rfl
  · obtain ⟨x, y, z, rfl, hx, hy, k⟩ := h
    have hrep := call_reprD (X := cxG P w K mg base ["_law_told_here", "_law_due"] "_law_is" (defScope s_law_is) d.f_is cdv A outer s H E) hg (by have := hr.un; show (A.deeper _).units + 100 < cLine; omega)
    refine ⟨_, (pss_one (ps_ret (pe_cmpR op_eq (pe_callB hrep (by rfl) B.rep boot_repr (pa_cons (pv 0) pa_nil)) (pe_callB hrep (by rfl) B.rep boot_repr (pa_cons (pv 1) pa_nil)) (nomark _)))), ?_⟩
    exact ⟨_, rfl, x, z, rfl, hx, _, rfl, y, z, rfl, hy, rfl, by rw [decide_eq_true rfl]; exact k⟩
theorem ok_told (d : Dn K mg) (B : Bn mg) (N : Nk2 K mg d) : FnOk P w K mg base CX0 6 d.f_told d.fd_told ["_law_many", "_law_root", "_law_links"] (spTold (He.ga K "Net")) := by
  have G_init := ok_INet (P := P) (w := w) (base := base) d B N.toNk
  refine d.D_told.F.ok sc_law_told (fun vs H Q E h => ?_) (fun cdv A outer s H vs Q E hr h => ?_)
  · obtain ⟨x, y, z, ex, ey, ez, rfl, _⟩ := h
    rfl
  · obtain ⟨x, y, z, ex, ey, ez, rfl, hx, hy, hz, k1, k2⟩ := h
    refine ⟨_, PSs.nox (pss_cons (ps_set (i := 3) sc_law_told.nd rfl (Or.inl rfl) (pe_tup (pa_cons pe_str (pa_cons pe_non pa_nil))))
      (pss_cons (ps_try_as (i := 4) (Wout := fun _ _ _ _ => False) rfl rfl sc_law_told.nd rfl rfl ⟨by rfl, by decide, Or.inl N.gB⟩ takes0
        (fun W pn xe tk po => pss_one (ps_set (i := 3) sc_law_told.nd rfl (Or.inl rfl) (pe_tup (pa_cons pe_non (pa_cons (pe_makeS N.mkN G_init (hr.mono (by decide)) (by rfl) N.gN d.b_Net___init__ (fun σ => passAt tk σ) (pa_cons (pv 0) (pa_cons (pv 1) (pa_cons (pv 2) pa_nil)))) pa_nil)))))
        (fun a oe cls dd pn hz hf => pss_one (ps_if (PW.pt (pw_and (pt_val (pe_callB (call_isX hz hf) (by rfl) B.isi boot_isinstance (pa_cons (pv 4) (pa_cons (pe_glob (v := .ref (He.ga K "TreeError")) (by rfl) N.gT rfl) pa_nil)))) (pw_and1 (pt_val (pe_callB (call_isX hz hf) (by rfl) B.isi boot_isinstance (pa_cons (pv 4) (pa_cons (pe_bltn (v := .ty "ValueError") (by rfl) N.ve (by decide +kernel) rfl) pa_nil)))))))
          (pss_one (ps_set (i := 3) sc_law_told.nd rfl (Or.inl rfl) (pe_tup (pa_cons (pe_xf N.ciB.xf N.ciB.no hz hf (pv 4)) (pa_cons pe_non pa_nil))))) pss_nil)))
      (pss_one (ps_ret (pv 3))))), ?_⟩
    refine ⟨by show 2 ≤ sizeLine; decide, fun p0 np0 => ?_⟩
    have s1 := sameNew (o := HO.tup [.str "other", .non]) np0
    refine ⟨_, rfl, _, rfl, _, rfl, fun n dx nn ndx hne => ?_⟩
    have nnH : H n = none := s1.free nn
    have sdx := sameNew (o := HO.own n) ndx
    have nn2 : upd (upd H p0 (.tup [.str "other", .non])) dx (.own n) n = none := by rw [upd_ne (Ne.symm hne)]; exact nn
    have s3 := (s1.trans sdx).trans (sameNew (o := HO.ins (He.ga K "Net") dx []) nn2)
    refine ⟨n, dx, x, y, z, ex, ey, ez, rfl, upd_same, hx.keep s3, hy.keep s3, hz.keep s3, fun e H2 s2 => ⟨rfl, by show 2 ≤ sizeLine; decide, fun p np => ?_⟩, fun e dd H2 fs s2 h2 hl => ?_⟩
    · have sp := samePast (samePut (o := HO.ins (He.ga K "Net") dx (netF x y z)) (s3.trans s2) nnH) (o := HO.tup [.non, .ref n]) np
      refine ⟨_, rfl, k1 e p n dx _ sp upd_same ?_⟩
      exact (sameNew np) _ _ upd_same
    · have s4 := s3.trans s2
      refine ⟨true, N.exB, fun _ er ner => ?_, fun zz => nomatch zz⟩
      refine ⟨_, rfl, _, dd, fs, _, _, true, rfl, rfl, h2, rfl, fun u ru => ru, N.erB, N.kTB, _, rfl, iteT ?_⟩
      refine ⟨_, rfl, _, dd, fs, _, _, true, rfl, rfl, h2, rfl, fun u ru => ru, N.erB, N.kVB, _, rfl, ?_⟩
      refine iteT ⟨_, rfl, rfl, rfl, dd, fs, _, rfl, h2, hl, by show 2 ≤ sizeLine; decide, fun p np => ?_⟩
      exact ⟨_, rfl, k2 e p _ (samePast s4 np) upd_same⟩
end
end K01
namespace K01
open PySem PySem.Spec PyProof.Rows L2 Kv
/-! ### law -/
def spLaw (K : PySem.W.Frag) : Sp := fun vs H Q _ => ∃ (a : Addr) (ns : List Int), vs = [.ref a] ∧ SqL K H a (ns.map V.int) ∧ ns.length ≤ 63 ∧ ∀ H2, Q (.bl true) H2
theorem netParts {H : Hp} {m : Int} : ∀ {ws : List V}, (∀ w ∈ ws, Lk m H w) → ∃ ds, ThAll H ws ds ∧ ∀ d ∈ ds, isPr d m = true
  | [], _ => ⟨[], .nil, fun d h => nomatch h⟩
  | v :: ws, h => by
    obtain ⟨p, i, j, rfl, hp, i0, i1, j0, j1, ne⟩ := h v List.mem_cons_self
    obtain ⟨ds, h1, h2⟩ := netParts (ws := ws) fun w hw => h w (List.mem_cons_of_mem _ hw)
    refine ⟨.tuple [.int i, .int j] :: ds, .cons (.tup hp (.cons (.int i) (  .cons (.int j) .nil)) (by show 2 ≤ 100; decide)) h1, fun d hd => ?_⟩
    rcases List.mem_cons.mp hd with e | hd
    · rw [e]
      show ((decide (0 ≤ i) && decide (i ≤ m - 1)) && ((decide (0 ≤ j) && decide (j ≤ m - 1)) && !decide (i = j))) = true
      rw [decide_eq_true i0, decide_eq_true (show i ≤ m - 1 by omega), decide_eq_true j0, decide_eq_true (show j ≤ m - 1 by omega), decide_eq_false ne]
      rfl
    · exact h2 d hd
/-- a drawn net, as things -/
structure NetTh (H : Hp) (p : Addr) (m r : Int) (l : Addr) (ws : List V) (ds : List PyData) : Prop where
  top : H p = some (.tup [.int m, .int r, .ref l])
  at_ : H l = some (.tup ws)
  all : ThAll H ws ds
  ok : Right m r ds
  wl : ws.length ≤ 60
theorem NetAt.th {H : Hp} {p : Addr} {m r : Int} {l : Addr} {ws : List V} (h : NetAt H p m r l ws) : ∃ ds, NetTh H p m r l ws ds := by
  obtain ⟨ds, h1, h2⟩ := netParts h.lk
  exact ⟨ds, h.top, h.at_, h1, ⟨h.m0, h.m1, h.r0, h.r1, by rw [← h1.length]; exact h.len, h2⟩, h.len⟩
theorem NetTh.keep {H H2 : Hp} {p : Addr} {m r : Int} {l : Addr} {ws : List V} {ds : List PyData} (s : Same H H2) (h : NetTh H p m r l ws ds) : NetTh H2 p m r l ws ds := ⟨s _ _ h.top, s _ _ h.at_, h.all.keep s, h.ok, h.wl⟩
theorem NetTh.links {H : Hp} {p : Addr} {m r : Int} {l : Addr} {ws : List V} {ds : List PyData} (h : NetTh H p m r l ws ds) : Th H (.ref l) (.tuple ds) := .tup h.at_ h.all (Nat.le_trans h.wl (by decide))
theorem NetTh.th {H : Hp} {p : Addr} {m r : Int} {l : Addr} {ws : List V} {ds : List PyData} (h : NetTh H p m r l ws ds) : Th H (.ref p) (netD m r ds) := .tup h.top (.cons (.int m) (.cons (.int r) (.cons h.links .nil))) (by show 3 ≤ 100; decide)
theorem NetTh.three {H : Hp} {p : Addr} {m r : Int} {l : Addr} {ws : List V} {ds : List PyData} (h : NetTh H p m r l ws ds) : Three H p (.int m) (.int r) (.ref l) (.int m) (.int r) (.tuple ds) := ⟨h.top, .int m, .int r, h.links⟩
theorem rgTh {H : Hp} (n : Nat) : ThAll H (rgV 0 n) ((List.range n).map fun i => PyData.int (0 + (i : Nat))) := by
  have e : rgV 0 (n : Int) = (List.range n).map fun i => V.int (0 + (i : Nat)) := by
    unfold rgV
    have e1 : ((n : Int) - 0).toNat = n := by omega
    rw [e1]
  rw [e]
  have all : ∀ l : List Nat, ThAll H (l.map fun i => V.int (0 + (i : Nat))) (l.map fun i => PyData.int (0 + (i : Nat))) := fun l => by
    induction l with
    | nil => exact .nil
    | cons i l ih => exact .cons (.int _) ih
  exact all _
theorem rgNeat : ∀ l : List Nat, (∀ i ∈ l, i ≤ 100) → NeatAll 1 (21 * l.length) (l.map fun i => PyData.int (0 + (i : Nat)))
  | [], _ => NeatAll.nil
  | i :: l, h => by
    have a := NeatAll.cons ((neatInt (i := 0 + (i : Int)) (by omega) (by have := h i List.mem_cons_self; omega)).mono (Nat.zero_le 1) (Nat.le_refl _)) (rgNeat l fun j hj => h j (List.mem_cons_of_mem _ hj))
    have e : 20 + 1 + 21 * l.length = 21 * (i :: l).length := by rw [List.length_cons]; omega
    rw [e] at a
    exact a
theorem rgNeatT {n : Nat} (hn : n ≤ 60) : Neat 2 2000 (.tuple ((List.range n).map fun i => PyData.int (0 + (i : Nat)))) :=
  ((rgNeat (List.range n) fun i hi => by have := List.mem_range.mp hi; omega).tup).mono (Nat.le_refl _) (by rw [List.length_range]; omega)
theorem firstBad_lt {m : Int} : ∀ {ds : List PyData} {i j : Nat}, firstBad m ds i = some j → j < i + ds.length
  | [], i, j, h => by cases h
  | e :: ds, i, j, h => by
    unfold firstBad at h
    split at h
    · have := firstBad_lt h
      rw [List.length_cons]
      omega
    · cases h
      rw [List.length_cons]
      omega
theorem wv_shows {K : PySem.W.Frag} {H : Hp} (dx dy dz : PyData) : ∃ z, Shows K H (wrongV dx dy dz) z := by
  have lit : ∀ {n w : Nat} (d : PyData) (v : V), Neat n w d → n ≤ 60 → w ≤ 100000 → Th H v d → ∃ z, Shows K H v z := fun d v h hn hw ht => ⟨_, h.shows hn hw ht⟩
  have many : ∃ z, Shows K H (.str "many") z := lit (n := 0) (w := 4) (.str "many") _ ⟨by decide +kernel, by decide +kernel, by decide +kernel, by decide +kernel, by decide +kernel, by decide +kernel⟩ (by decide) (by decide) (.str _)
  have root : ∃ z, Shows K H (.str "root") z := lit (n := 0) (w := 4) (.str "root") _ ⟨by decide +kernel, by decide +kernel, by decide +kernel, by decide +kernel, by decide +kernel, by decide +kernel⟩ (by decide) (by decide) (.str _)
  have links : ∃ z, Shows K H (.str "links") z := lit (n := 0) (w := 5) (.str "links") _ ⟨by decide +kernel, by decide +kernel, by decide +kernel, by decide +kernel, by decide +kernel, by decide +kernel⟩ (by decide) (by decide) (.str _)
  unfold wrongV
  split
  · split
    · split
      · split
        · split
          · exact links
          · rename_i hl
            split
            · rename_i i hi
              have := firstBad_lt hi
              exact lit _ _ (neatInt (i := (i : Int)) (by omega) (by omega)) (by decide) (by decide) (.int _)
            · exact lit (n := 0) (w := 0) .none _ ⟨by decide +kernel, by decide +kernel, by decide +kernel, by decide +kernel, by decide +kernel, by decide +kernel⟩ (by decide) (by decide) .non
        · exact links
      · exact root
    · exact many
  · exact many
section
variable {P : Program} {w : World} {K : PySem.W.Frag} {mg : Str → Option Value} {base : Heap}
theorem oddIxE {σ : L2.St} {H : Hp} {a q : Addr} {m r : Int} {l : Addr} {ws : List V} {ds : List PyData} (e : σ[1]? = some (some (.ref a))) (hH : Hand H a) (e2 : σ[3]? = some (some (.ref q))) (hn : NetTh H q m r l ws ds) :
    ThE (tCall spOdd [] E0 (tCons (tVar 1) (tCons (tOp (rIxT K) (tVar 3) (tC (.int 2))) tNil))) σ H := fun H1 s Q k =>
  ⟨_, e, _, e2, q, _, 2, _, rfl, rfl, SqT.of (hn.keep s).top, rfl, a, _, _, rfl, hH.keep s, (hn.keep s).links, k⟩
theorem ok_law (d : Dn K mg) (B : Bn mg) (N : Nk2 K mg d) : FnG P w K mg base 7 d.f_law d.fd_law ["_law_script"] (spLaw K) := by
  have G_hand := ok_hand (P := P) (w := w) (base := base) d.D_hand B.toBt
  have G_draw := ok_draw (P := P) (w := w) (base := base) d.D_draw B.toBt
  have G_any := ok_any (P := P) (w := w) (base := base) d.D_any d.D_draw B.toBt
  have G_drawn := ok_drawn (P := P) (w := w) (base := base) d B
  have G_odd := ok_odd (P := P) (w := w) (base := base) d B
  have G_bent := ok_bent (P := P) (w := w) (base := base) d B
  have G_wrong := ok_wrong (P := P) (w := w) (base := base) d B
  have G_told := ok_told (P := P) (w := w) (base := base) d B N
  have G_is := ok_is (P := P) (w := w) (base := base) d B
  have G_every := ok_every (P := P) (w := w) (base := base) d B N.toNk
  have G_init := ok_INet (P := P) (w := w) (base := base) d B N.toNk
  have G_eq := ok_eq (P := P) (w := w) (base := base) d B N
  refine okG d.D_law.F sclaw (fun vs H Q E h => ?_) (fun cdv A outer s H vs Q E hg hr h => ?_)
  · obtain ⟨a, ns, rfl, _⟩ := h
    rfl
  · obtain ⟨a, ns, rfl, hS, hlen, k⟩ := h
    have hu : (A.deeper (envOfC "law" (defScope slaw) s.heap.objs.size d.f_law cdv)).units + 64 < cLine := by
      have := hr.un
      omega
    refine ⟨_, ((pss_cons (ps_set (i := 1) sclaw.nd rfl (Or.inl rfl) (pe_call G_hand (hr.mono (by decide)) (by rfl) d.D_hand.g d.D_hand.F.kp d.D_hand.b .nil pass0 (pa_cons (pv 0) pa_nil)))
      (pss_cons (ps_for PassesOwn.never rfl (pi_range1 (by rfl) B.rng (pa_cons pe_int pa_nil)) (pg_name (i := 2) sclaw.nd rfl (Or.inl rfl))
      (pss_cons (ps_set (i := 3) sclaw.nd rfl (Or.inl rfl) (pe_call G_drawn (hr.mono (by decide)) (by rfl) d.D_drawn.g d.D_drawn.F.kp d.D_drawn.b .nil pass0 (pa_cons (pv 1) (pa_cons pe_int (pa_cons pe_int (pa_cons pe_int pa_nil))))))
      (pss_cons (ps_asg (pe_call G_told (hr.mono (by decide)) (by rfl) d.D_told.g d.D_told.F.kp d.D_told.b .nil pass0 (pa_cons (pe_ix ix_tup (pv 3) pe_int (fun _ _ => rfl)) (pa_cons (pe_ix ix_tup (pv 3) pe_int (fun _ _ => rfl)) (pa_cons (pe_ix ix_tup (pv 3) pe_int (fun _ _ => rfl)) pa_nil)))) (pg_tup (by rfl) (pgs_cons (pg_name (i := 4) sclaw.nd rfl (Or.inl rfl)) (pgs_cons (pg_name (i := 5) sclaw.nd rfl (Or.inl rfl)) pgs_nil))))
      (pss_cons (ps_if (PW.pt (pw_or (pt_cmpR op_notN (pv 4) pe_non (nomark _)) (pw_or1 (pt_not (pt_val (pe_callFG G_is hg (hr.mono (by decide)) (by rfl) d.D_is.g d.D_is.F.kp d.D_is.b (pa_cons (pe_tup (pa_cons (pe_fld (pv 5) (by rfl)) (pa_cons (pe_fld (pv 5) (by rfl)) (pa_cons (pe_fld (pv 5) (by rfl)) pa_nil)))) (pa_cons (pv 3) pa_nil))))))))
      (pss_one (ps_ret pe_bl)) pss_nil)
      (pss_cons (ps_if (PW.pt (pw_or (pt_cmpR (op_neD hu) (pe_call G_every (hr.mono (by decide)) (by rfl) d.D_every_link.g d.D_every_link.F.kp d.D_every_link.b .nil passL (pa_cons (pv 5) pa_nil)) (pe_tupRg rfl (by rfl) B.tup (prg_1 (by rfl) B.rng (pe_callB call_len_seq (by rfl) B.len PySem.boot_len (pa_cons (pe_ix ix_tup (pv 3) pe_int (fun _ _ => rfl)) pa_nil)))) (nomark _)) (pw_or1 (pt_cmpR (op_neO N.eqN N.eqF N.neN N.cm G_eq d.b_Net___eq__ (hr.mono (by decide))) (pv 5) (pe_make N.mkN G_init (hr.mono (by decide)) (by rfl) N.gN d.b_Net___init__ .nil passL (pa_cons (pe_ix ix_tup (pv 3) pe_int (fun _ _ => rfl)) (pa_cons (pe_ix ix_tup (pv 3) pe_int (fun _ _ => rfl)) (pa_cons (pe_ix ix_tup (pv 3) pe_int (fun _ _ => rfl)) pa_nil)))) (nomark _)))))
      (pss_one (ps_ret pe_bl)) pss_nil)
      (pss_cons (ps_for PassesOwn.never rfl (pi_list (pe_lst (pa_cons (pv 3) (pa_cons (pe_ix ix_tup (pv 3) pe_int (fun _ _ => rfl)) (pa_cons pe_non (pa_cons pe_int (pa_cons (pe_slice sl_tupA (pv 3) po_none (po_some pe_int)) pa_nil))))))) (pg_name (i := 6) sclaw.nd rfl (Or.inl rfl))
      (pss_one (ps_if (PW.pt (pw_or (pt_cmpR (op_eqO N.eqN N.eqF G_eq d.b_Net___eq__ (hr.mono (by decide))) (pv 5) (pv 6) (nomark _)) (pw_or1 (pt_not (pt_cmpR (op_neO N.eqN N.eqF N.neN N.cm G_eq d.b_Net___eq__ (hr.mono (by decide))) (pv 5) (pv 6) (nomark _))))))
      (pss_one (ps_ret pe_bl)) pss_nil)))
      (pss_cons (ps_for PassesOwn.never rfl (pi_range1 (by rfl) B.rng (pa_cons pe_int pa_nil)) (pg_name (i := 7) sclaw.nd rfl (Or.inl rfl))
      (pss_cons (ps_set (i := 8) sclaw.nd rfl (Or.inl rfl) (pe_call G_bent (hr.mono (by decide)) (by rfl) d.D_bent.g d.D_bent.F.kp d.D_bent.b .nil pass0 (pa_cons (pv 1) (pa_cons (pv 3) pa_nil))))
      (pss_cons (ps_for PassesOwn.never rfl (pi_range1 (by rfl) B.rng (pa_cons (pe_call G_draw (hr.mono (by decide)) (by rfl) d.D_draw.g d.D_draw.F.kp d.D_draw.b .nil pass0 (pa_cons (pv 1) (pa_cons pe_int pa_nil))) pa_nil)) (pg_name (i := 9) sclaw.nd rfl (Or.inl rfl))
      (pss_one (ps_set (i := 8) sclaw.nd rfl (Or.inl rfl) (pe_call G_bent (hr.mono (by decide)) (by rfl) d.D_bent.g d.D_bent.F.kp d.D_bent.b .nil pass0 (pa_cons (pv 1) (pa_cons (pv 8) pa_nil))))))
      (pss_cons (ps_asg (pe_call G_told (hr.mono (by decide)) (by rfl) d.D_told.g d.D_told.F.kp d.D_told.b .nil pass0 (pa_cons (pe_ix ix_tup (pv 8) pe_int (fun _ _ => rfl)) (pa_cons (pe_ix ix_tup (pv 8) pe_int (fun _ _ => rfl)) (pa_cons (pe_ix ix_tup (pv 8) pe_int (fun _ _ => rfl)) pa_nil)))) (pg_tup (by rfl) (pgs_cons (pg_name (i := 4) sclaw.nd rfl (Or.inl rfl)) (pgs_cons (pg_name (i := 10) sclaw.nd rfl (Or.inl rfl)) pgs_nil))))
      (pss_cons (ps_if (pt_not (pt_val (pe_callFG G_is hg (hr.mono (by decide)) (by rfl) d.D_is.g d.D_is.F.kp d.D_is.b (pa_cons (pv 4) (pa_cons (pe_call G_wrong (hr.mono (by decide)) (by rfl) d.D_wrong.g d.D_wrong.F.kp d.D_wrong.b .nil pass0 (pa_cons (pe_ix ix_tup (pv 8) pe_int (fun _ _ => rfl)) (pa_cons (pe_ix ix_tup (pv 8) pe_int (fun _ _ => rfl)) (pa_cons (pe_ix ix_tup (pv 8) pe_int (fun _ _ => rfl)) pa_nil)))) pa_nil)))))
      (pss_one (ps_ret pe_bl)) pss_nil)
      (pss_one (ps_if (PW.pt (pw_and (pt_cmpR op_isN (pv 4) pe_non (nomark _)) (pw_and1 (pt_cmpR op_ne (pe_cmpR (op_eqO N.eqN N.eqF G_eq d.b_Net___eq__ (hr.mono (by decide))) (pv 10) (pv 5) (nomark _)) (pe_cmpR (op_eqD hu) (pv 8) (pv 3) (nomark _)) (nomark _)))))
      (pss_one (ps_ret pe_bl)) pss_nil)))))))
      (pss_cons (ps_set (i := 11) sclaw.nd rfl (Or.inl rfl) pe_str)
      (pss_cons (ps_try_only (Wout := fun _ _ _ _ => False) rfl rfl ⟨by rfl, by decide, Or.inl N.gNo⟩ takes0
        (fun W pn xe tk po => pss_one (ps_expr (pe_callS G_every (hr.mono (by decide)) (by rfl) d.D_every_link.g d.D_every_link.F.kp d.D_every_link.b (fun σ => passAt tk σ) (pa_cons (pe_call G_any (hr.mono (by decide)) (by rfl) d.D_any.g d.D_any.F.kp d.D_any.b .nil pass0 (pa_cons (pv 1) (pa_cons (pe_lst (pa_cons pe_non (pa_cons (pv 3) (pa_cons pe_int (pa_cons pe_str (pa_cons (pe_lst pa_nil) (pa_cons (pe_call G_odd (hr.mono (by decide)) (by rfl) d.D_odd.g d.D_odd.F.kp d.D_odd.b .nil pass0 (pa_cons (pv 1) (pa_cons (pe_ix (r := rIxT K) ix_tup (pv 3) pe_int (fun _ _ => rfl)) pa_nil))) pa_nil))))))) pa_nil))) pa_nil))))
        (fun a oe cls dd pn hz hf => pss_one (ps_set (i := 11) sclaw.nd rfl (Or.inl rfl) pe_str)))
      (pss_one (ps_if (pt_cmpR op_ne (pv 11) pe_str (nomark _))
      (pss_one (ps_ret pe_bl)) pss_nil)))))))))))
      (pss_one (ps_ret pe_bl))))), ?_⟩
    refine ⟨_, rfl, a, ns, rfl, hS, hlen, fun p H1 np s1 hH => ?_⟩
    refine ⟨3, rfl, by decide, by decide, for_range (lo := 0) (n := 3) (fun i σ2 H2 => ∃ (v2 v3 v4 v5 v6 v7 v8 v9 v10 v11 : Option V), σ2 = [some (.ref a), some (.ref p), v2, v3, v4, v5, v6, v7, v8, v9, v10, v11] ∧ Same H1 H2)
      ⟨_, _, _, _, _, _, _, _, _, _, rfl, Same.refl _⟩ ?_ ?_⟩
    · rintro i σ2 H2 hi ⟨v2, v3, v4, v5, v6, v7, v8, v9, v10, v11, rfl, s2⟩
      refine ⟨_, rfl, p, 10, 5, 30, rfl, hH.keep s2, by decide, by decide, by decide, by decide, by decide, by decide, fun q m r l ws H3 nq s3 hnet _ => ?_⟩
      obtain ⟨ds, hn⟩ := hnet.th
      have s13 := s2.trans s3
      refine ⟨_, rfl, q, _, 0, _, rfl, rfl, SqT.of hn.top, rfl, _, rfl, q, _, 1, _, rfl, rfl, SqT.of hn.top, rfl, _, rfl, q, _, 2, _, rfl, rfl, SqT.of hn.top, rfl, .int m, .int r, .ref l, _, _, _, rfl, .int m, .int r, hn.links, fun _ p2 n dx H4 s4 hp2 hn2 => ?_, fun ne => (ne hn.ok.wv).elim⟩
      refine ⟨p2, _, rfl, SqT.of hp2, rfl, _, _, rfl, _, _, rfl, rfl, ?_⟩
      have hn4 := hn.keep s4
      have ob : NetOb (He.ga K "Net") H4 n m r l ws ds := ⟨⟨dx, hn2⟩, hn4.at_, hn4.all, hn.ok, Nat.le_trans hn.wl (by decide)⟩
      -- the net's parts are kept
      refine ⟨_, rfl, rfl, _, rfl, iteNS rfl ?_⟩
      refine ⟨_, rfl, n, _, dx, _, _, rfl, hn2, N.cls, N.nm, rfl, _, rfl, n, _, dx, _, _, rfl, hn2, N.cls, N.nr, rfl, _, rfl, n, _, dx, _, _, rfl, hn2, N.cls, N.nl, rfl, by show 3 ≤ sizeLine; decide, fun t nt => ?_⟩
      have s5 := sameNew (o := HO.tup [.int m, .int r, .ref l]) nt
      have hn5 := hn4.keep s5
      have tTh : Th (upd H4 t (.tup [.int m, .int r, .ref l])) (.ref t) (netD m r ds) := .tup upd_same (.cons (.int m) (.cons (.int r) (.cons hn5.links .nil))) (by show 3 ≤ 100; decide)
      refine ⟨_, rfl, .ref t, .ref q, _, rfl, hn.ok.neat.shows (by decide) (by decide) tTh, hn.ok.neat.shows (by decide) (by decide) hn5.th, _, rfl, iteF ?_⟩
      have ob5 := ob.keep s5
      -- every_link, and the same net made again
      refine ⟨_, rfl, .ref n, rfl, Or.inl ⟨n, l, m, r, ws, ds, rfl, ob5, fun q1 nq1 => ?_⟩⟩
      have s6 := sameNew (o := HO.tup (rgV 0 ws.length)) nq1
      have hn6 := hn5.keep s6
      refine ⟨_, rfl, q, _, 2, _, rfl, rfl, SqT.of hn6.top, rfl, l, ws, rfl, Or.inr (SqT.of hn6.at_), _, rfl, RgOk.of_le (Int.le_refl _) (by have := hn.wl; omega) (by decide) (by omega), fun q2 nq2 => ?_⟩
      have s7 := sameNew (o := HO.tup (rgV 0 ws.length)) nq2
      have wl := hn.wl
      have rg1 : Th (upd (upd (upd H4 t (.tup [.int m, .int r, .ref l])) q1 (.tup (rgV 0 ws.length))) q2 (.tup (rgV 0 ws.length))) (.ref q1) (.tuple ((List.range ws.length).map fun i => PyData.int (0 + (i : Nat)))) :=
        .tup (s7 _ _ upd_same) (rgTh _) (by rw [rgV_length]; omega)
      have rg2 : Th (upd (upd (upd H4 t (.tup [.int m, .int r, .ref l])) q1 (.tup (rgV 0 ws.length))) q2 (.tup (rgV 0 ws.length))) (.ref q2) (.tuple ((List.range ws.length).map fun i => PyData.int (0 + (i : Nat)))) :=
        .tup upd_same (rgTh _) (by rw [rgV_length]; omega)
      refine ⟨_, _, rg1.dp (rgNeatT wl).nd, rg2.dp (rgNeatT wl).nd, (rgNeatT wl).shaped (by decide), (rgNeatT wl).shaped (by decide), _, rfl, ?_⟩
      rw [eqv_self _ (rgNeatT wl).nd]
      refine iteF ?_
      have hn7 := hn6.keep s7
      have ob7 := (ob5.keep s6).keep s7
      obtain ⟨G, hG⟩ : ∃ G, G = upd (upd (upd H4 t (.tup [.int m, .int r, .ref l])) q1 (.tup (rgV 0 ws.length))) q2 (.tup (rgV 0 ws.length)) := ⟨_, rfl⟩
      have sG : Same H1 G := by
        rw [hG]
        exact ((((s13.trans s4).trans s5).trans s6).trans s7)
      rw [← hG] at hn7 ob7 ⊢
      obtain ⟨dx7, hdx7⟩ := ob7.ob
      have nfC : PySem.W.notFirst K (He.ga K "Net") (.ref (He.ga K "Net")) = true := by
        unfold PySem.W.notFirst
        rw [beq_self_eq_true, Bool.true_or]
      refine ⟨_, rfl, _, rfl, q, _, 0, _, rfl, rfl, SqT.of hn7.top, rfl, _, rfl, q, _, 1, _, rfl, rfl, SqT.of hn7.top, rfl, _, rfl, q, _, 2, _, rfl, rfl, SqT.of hn7.top, rfl, fun b dxb nb ndxb hbd => ?_⟩
      have t1 := sameNew (o := HO.own b) ndxb
      have nb2 : upd G dxb (.own b) b = none := by rw [upd_ne (Ne.symm hbd)]; exact nb
      have t2 := t1.trans (sameNew (o := HO.ins (He.ga K "Net") dxb []) nb2)
      refine ⟨b, dxb, .int m, .int r, .ref l, _, _, _, rfl, upd_same, .int m, .int r, (hn7.links).keep t2, fun _ H8 t3 => ⟨rfl, ?_⟩, fun ne => (ne hn.ok.wv).elim⟩
      have s8 : Same G (upd H8 b (.ins (He.ga K "Net") dxb (netF (.int m) (.int r) (.ref l)))) := samePut (t2.trans t3) nb
      have hn8 := hn7.keep s8
      have ob8 := ob7.keep s8
      have obb : NetOb (He.ga K "Net") (upd H8 b (.ins (He.ga K "Net") dxb (netF (.int m) (.int r) (.ref l)))) b m r l ws ds := ⟨⟨dxb, upd_same⟩, hn8.at_, hn8.all, hn.ok, Nat.le_trans hn.wl (by decide)⟩
      refine ⟨n, dx7, _, _, rfl, s8 _ _ hdx7, .base (.ins upd_same N.cls N.ca N.cn N.ct N.cm), nfC, n, l, m, r, ws, ds, .ref b, rfl, ob8, Or.inl ⟨b, l, m, r, ws, ds, rfl, obb, _, rfl, _, rfl, ?_⟩⟩
      rw [eqv_self _ hn.ok.neat.nd]
      refine iteF ?_
      obtain ⟨M, hM⟩ : ∃ M, M = upd H8 b (.ins (He.ga K "Net") dxb (netF (.int m) (.int r) (.ref l))) := ⟨_, rfl⟩
      rw [← hM] at s8 hn8 ob8 ⊢
      have sM := sG.trans s8
      -- nothing else is equal to it
      refine ⟨_, rfl, _, rfl, q, _, 2, _, rfl, rfl, SqT.of hn8.top, rfl, ?_⟩
      refine ⟨_, rfl, 2, rfl, slTup hn8.top fun t2 H9 s9 ht2 => ⟨by show 5 ≤ sizeLine; decide, fun ls nls => ?_⟩⟩
      have sls := sameNew (o := HO.lst [V.ref q, V.ref l, V.non, V.int 0, V.ref t2]) nls
      have s10 := s9.trans sls
      have ob10 := ob8.keep s10
      have hn10 := hn8.keep s10
      have ht10 := sls _ _ ht2
      obtain ⟨G2, hG2⟩ : ∃ G2, G2 = upd H9 ls (.lst [V.ref q, V.ref l, V.non, V.int 0, V.ref t2]) := ⟨_, rfl⟩
      have hls : G2 ls = some (.lst [V.ref q, V.ref l, V.non, V.int 0, V.ref t2]) := by
        rw [hG2]
        exact upd_same
      rw [← hG2] at s10 ob10 hn10 ht10 ⊢
      have items : ∀ (j : Nat) x, [V.ref q, V.ref l, V.non, V.int 0, V.ref t2][j]? = some x → ∃ e, Th G2 x e := by
        intro j x hx
        match j, hx with
        | 0, hx => cases hx; exact ⟨_, hn10.th⟩
        | 1, hx => cases hx; exact ⟨_, hn10.links⟩
        | 2, hx => cases hx; exact ⟨_, .non⟩
        | 3, hx => cases hx; exact ⟨_, .int 0⟩
        | 4, hx => cases hx; exact ⟨_, .tup ht10 (.cons (.int m) (.cons (.int r) .nil)) (by show 2 ≤ 100; decide)⟩
        | j + 5, hx => simp at hx
      refine ⟨ls, rfl, ⟨_, SqL.of hls⟩, for_list (K := K) (a := ls) (xs := [V.ref q, V.ref l, V.non, V.int 0, V.ref t2]) (fun j σ2 H3 => ∃ v6 : Option V, σ2 = [some (.ref a), some (.ref p), some (.int (0 + (i : Int))), some (.ref q), some .non, some (.ref n), v6, v7, v8, v9, v10, v11] ∧ Same G2 H3)
        ⟨_, rfl, Same.refl _⟩ (fun j σ2 H3 _ ⟨_, _, e⟩ => SqL.of (e _ _ hls)) ?_ ?_⟩
      · rintro j x σ2 H3 hx ⟨v6, rfl, e3⟩
        obtain ⟨e, he⟩ := items j x hx
        have he3 := he.keep e3
        have ob3 := ob10.keep e3
        obtain ⟨dx3, hdx3⟩ := ob3.ob
        refine ⟨_, rfl, _, rfl, n, dx3, _, _, rfl, hdx3, he3.tyx, N.nf _ (tyNm_mem e), n, l, m, r, ws, ds, x, rfl, ob3, Or.inr ⟨⟨e, he3⟩, _, rfl, iteF ?_⟩⟩
        refine ⟨_, rfl, _, rfl, n, dx3, _, _, rfl, hdx3, he3.tyx, N.nf _ (tyNm_mem e), n, l, m, r, ws, ds, x, rfl, ob3, Or.inr ⟨⟨e, he3⟩, _, rfl, _, rfl, iteF ?_⟩⟩
        exact ⟨_, rfl, e3⟩
      rintro σ2 H3 ⟨v6b, rfl, e3⟩
      have sA := (sM.trans s10).trans e3
      have hnA := hn10.keep e3
      have obA := ob10.keep e3
      have hHA := hH.keep sA
      refine ⟨4, rfl, by decide, by decide, for_range (lo := 0) (n := 4) (fun j σ2 H5 => ∃ (w4 w6 w7 w8 w9 w10 : Option V), σ2 = [some (.ref a), some (.ref p), some (.int (0 + (i : Int))), some (.ref q), w4, some (.ref n), w6, w7, w8, w9, w10, v11] ∧ Same H3 H5)
        ⟨_, _, _, _, _, _, rfl, Same.refl _⟩ ?_ ?_⟩
      · rintro j σ2 H5 hj ⟨w4, w6, w7, w8, w9, w10, rfl, e5⟩
        have hnB := hnA.keep e5
        have obB := obA.keep e5
        have hHB := hHA.keep e5
        refine ⟨_, rfl, _, rfl, p, q, _, _, _, _, _, _, rfl, hHB, hnB.three, fun o x y z ex ey ez H6 no e6 ho => ?_⟩
        refine ⟨_, rfl, p, 3, rfl, by decide, by decide, hHB.keep e6, fun c hc => ⟨(c : Int), rfl, by omega, by omega, for_range (lo := 0) (n := (c : Int).toNat) (fun g σ3 H7 => ∃ (u9 : Option V) (o : Addr) (x y z : V) (ex ey ez : PyData), σ3 = [some (.ref a), some (.ref p), some (.int (0 + (i : Int))), some (.ref q), w4, some (.ref n), w6, some (.int (0 + (j : Int))), some (.ref o), u9, w10, v11] ∧ Same H6 H7 ∧ Three H7 o x y z ex ey ez)
          ⟨_, o, x, y, z, ex, ey, ez, rfl, Same.refl _, ho⟩ ?_ ?_⟩⟩
        · rintro g σ3 H7 hg2 ⟨u9, o, x, y, z, ex, ey, ez, rfl, e7, ho7⟩
          refine ⟨_, rfl, _, rfl, p, o, x, y, z, ex, ey, ez, rfl, (hHB.keep e6).keep e7, ho7, fun o2 x2 y2 z2 ex2 ey2 ez2 H8b no2 e8 ho8 => ?_⟩
          exact ⟨_, o2, x2, y2, z2, ex2, ey2, ez2, rfl, e7.trans e8, ho8⟩
        rintro σ3 H7 ⟨u9, o, x, y, z, ex, ey, ez, rfl, e7, ho7⟩
        have e57 := (e5.trans e6).trans e7
        refine ⟨_, rfl, o, _, 0, _, rfl, rfl, SqT.of ho7.top, rfl, _, rfl, o, _, 1, _, rfl, rfl, SqT.of ho7.top, rfl, _, rfl, o, _, 2, _, rfl, rfl, SqT.of ho7.top, rfl, x, y, z, ex, ey, ez, rfl, ho7.hx, ho7.hy, ho7.hz, fun hw p3 n3 dx3 H8b e8 hp3 hn3 => ?_, fun hw p3 H8b e8 hp3 => ?_⟩
        · obtain ⟨m2, r2, ds2, rfl, rfl, rfl, hR⟩ := wv_inv hw
          have hx7 := ho7.hx
          cases hx7
          have hy7 := ho7.hy
          cases hy7
          have hz7 := ho7.hz
          cases hz7
          rename_i l2 ws2 hal2 hlen2 hall2
          refine ⟨p3, _, rfl, SqT.of hp3, rfl, _, _, rfl, _, _, rfl, rfl, ?_⟩
          have ho8 := ho7.keep e8
          refine ⟨_, rfl, _, rfl, o, _, 0, _, rfl, rfl, SqT.of ho8.top, rfl, _, rfl, o, _, 1, _, rfl, rfl, SqT.of ho8.top, rfl, _, rfl, o, _, 2, _, rfl, rfl, SqT.of ho8.top, rfl, _, _, _, _, _, _, rfl, ho8.hx, ho8.hy, ho8.hz, fun H9b e9 => ?_⟩
          obtain ⟨zt, hzt⟩ := wv_shows (K := K) (H := H9b) (.int m2) (.int r2) (.tuple ds2)
          have hzn := hzt
          rw [hw] at hzn
          refine ⟨_, _, zt, rfl, hzn, hzt, _, rfl, iteF ?_⟩
          have e89 := e8.trans e9
          have hnC := (hnB.keep (e6.trans e7)).keep e89
          have obC := (obB.keep (e6.trans e7)).keep e89
          obtain ⟨dxC, hdxC⟩ := obC.ob
          have ho9 := ho8.keep e9
          have obD : NetOb (He.ga K "Net") H9b n3 m2 r2 l2 ws2 ds2 := ⟨⟨dx3, e9 _ _ hn3⟩, e89 _ _ hal2, hall2.keep e89, hR, hlen2⟩
          have oTh : Th H9b (.ref o) (netD m2 r2 ds2) := .tup ho9.top (.cons (.int m2) (.cons (.int r2) (.cons obD.links .nil))) (by show 3 ≤ 100; decide)
          refine ⟨_, rfl, rfl, _, rfl, ?_⟩
          rw [decide_eq_true (rfl : V.non = V.non)]
          refine iteT ?_
          refine ⟨_, rfl, _, rfl, n3, dx3, _, _, rfl, e9 _ _ hn3, .base (.ins hdxC N.cls N.ca N.cn N.ct N.cm), nfC, n3, l2, m2, r2, ws2, ds2, .ref n, rfl, obD, Or.inl ⟨n, l, m, r, ws, ds, rfl, obC, _, rfl, _, rfl, netD m2 r2 ds2, netD m r ds, oTh.dp hR.neat.nd, hnC.th.dp hn.ok.neat.nd, hR.neat.shaped (by decide), hn.ok.neat.shaped (by decide), rfl, _, rfl, iteNS rfl ?_⟩⟩
          exact ⟨_, _, _, _, _, _, rfl, (e57.trans e8).trans e9⟩
        · refine ⟨p3, _, rfl, SqT.of hp3, rfl, _, _, rfl, _, _, rfl, rfl, ?_⟩
          have ho8 := ho7.keep e8
          refine ⟨_, rfl, _, rfl, o, _, 0, _, rfl, rfl, SqT.of ho8.top, rfl, _, rfl, o, _, 1, _, rfl, rfl, SqT.of ho8.top, rfl, _, rfl, o, _, 2, _, rfl, rfl, SqT.of ho8.top, rfl, x, y, z, ex, ey, ez, rfl, ho8.hx, ho8.hy, ho8.hz, fun H9b e9 => ?_⟩
          obtain ⟨zt, hzt⟩ := wv_shows (K := K) (H := H9b) ex ey ez
          refine ⟨_, _, zt, rfl, hzt, hzt, _, rfl, iteF ?_⟩
          refine ⟨_, rfl, rfl, _, rfl, ?_⟩
          rw [decide_eq_false hw]
          refine iteF ?_
          exact ⟨_, _, _, _, _, _, rfl, (e57.trans e8).trans e9⟩
      · rintro σ2 H5 ⟨w4, w6, w7, w8, w9, w10, rfl, e5⟩
        have hnE := hnA.keep e5
        have hHE := hHA.keep e5
        refine ⟨_, rfl, lstOf (n := 6) (.cons .non (.cons (.var rfl hnE.th) (.cons .int (.cons .str (.cons (.lst .nil) (.cons (oddIxE rfl hHE rfl hnE) .nil)))))) (by decide) fun pl vs2 ds2 H6 npl e6 hpl hs6 hn6 => ?_⟩
        dsimp only [tNil]
        refine anyTh (hHE.keep e6) hpl hs6 (by omega) (by omega) fun v dv hv => ⟨v, rfl, Or.inr ⟨⟨dv, hv⟩, fun H7 e7 => ⟨true, N.exN, fun _ er ner => ?_, fun zz => nomatch zz⟩⟩⟩
        refine ⟨_, rfl, rfl, _, rfl, iteNS rfl ?_⟩
        exact ⟨_, _, _, _, _, _, _, _, _, _, rfl, ((sA.trans e5).trans e6).trans e7⟩
    · rintro σ2 H2 ⟨v2, v3, v4, v5, v6, v7, v8, v9, v10, v11, rfl, s2⟩
      exact k _
end
end K01
namespace K01
open PySem PySem.Spec PyProof.Rows L2 Kv
/-- a class over ValueError with an __init__ of its own, by its object -/
def oexB (K : PySem.W.Frag) (C : Addr) : Bool := (match K.lookup C with
  | some ⟨.type "type", _, .cls cd, sl⟩ => (match cd.mro, sl.toList with
    | .ref C2 :: bm, [_, _, _, _, some (.builtin n), _] => C2 == C && (n == "ValueError.__new__" && (cd.hasDict && (!cd.hasDel && PySem.HandSPX.refsVE bm)))
    | _, _ => false)
  | _ => false) && (decide (PySem.W.findIn K (.ref C) "__setattr__" = some (some (.builtin "object.__setattr__"))) && (decide (PySem.W.subIn K (.ref C) (.type "BaseException") = some true) && (decide (PySem.W.typeIn K (.ref C) = some (.type "type")) && PySem.W.keepIn K (.ref C))))
theorem oexB_ok {K : PySem.W.Frag} {C : Addr} (h : oexB K C = true) : OexC K C := by
  unfold oexB at h
  obtain ⟨h1, h⟩ := Bool.and_eq_true_iff.mp h
  obtain ⟨h2, h⟩ := Bool.and_eq_true_iff.mp h
  obtain ⟨h3, h⟩ := Bool.and_eq_true_iff.mp h
  obtain ⟨h4, h5⟩ := Bool.and_eq_true_iff.mp h
  refine ⟨?_, of_decide_eq_true h2, of_decide_eq_true h3, of_decide_eq_true h4, h5⟩
  split at h1
  · rename_i dd cd sl ho
    split at h1
    · rename_i C2 bm k0 k1 k2 k3 n k5 hm hs
      simp only [Bool.and_eq_true, beq_iff_eq, Bool.not_eq_true'] at h1
      obtain ⟨e1, e2, e3, e4, e5⟩ := h1
      obtain ⟨nm, bs, mro, nsp, qn, hd, sn, sub, ab, col, del⟩ := cd
      obtain ⟨l⟩ := sl
      dsimp only at hm hs e3 e4
      subst hm hs e1 e2 e3 e4
      exact ⟨nm, qn, nsp, bs, bm, sn, sub, ab, col, dd, k0, k1, k2, k3, k5, ho, e5⟩
    · cases h1
  · cases h1
def ciB (K : PySem.W.Frag) (p : Str × Str) : Bool := oexB K (He.ga K p.1) && (xfB K (He.ga K p.1) && (He.eqO (PySem.W.findIn K (.ref (He.ga K p.1)) "__init__") (some (some (.ref (He.ma K (He.ga K p.1) "__init__")))) && (decide (PySem.W.typeIn K (.ref (He.ma K (He.ga K p.1) "__init__")) = some (.type "function")) && He.eqO (PySem.W.findIn K (.ref (He.ga K p.1)) p.2) (some none))))
theorem ciB_ok {K : PySem.W.Frag} {x f : Str} (h : ciB K (x, f) = true) : CI K x f (He.ma K (He.ga K x) "__init__") := by
  obtain ⟨h1, h⟩ := Bool.and_eq_true_iff.mp h
  obtain ⟨h2, h⟩ := Bool.and_eq_true_iff.mp h
  obtain ⟨h3, h⟩ := Bool.and_eq_true_iff.mp h
  obtain ⟨h4, h5⟩ := Bool.and_eq_true_iff.mp h
  exact ⟨oexB_ok h1, xfB_ok h2, He.eqO_ok h3, of_decide_eq_true h4, He.eqO_ok h5⟩
def netB (K : PySem.W.Frag) : Bool := decide (PySem.W.findIn K (.ref (He.ga K "Net")) "__class__" = some (some (.builtin "object.__class__"))) && (decide (PySem.W.specialIn K (.builtin "object.__class__") "__get__" = some (some (.builtin "getset_descriptor.__get__"))) &&
  (decide (PySem.W.takesIn K (.builtin "object.__class__") = some true) && (decide (PySem.W.mroIn K (He.ga K "Net") (.type "object") = some true) && ((tyNames.all fun t => decide (PySem.W.kitOne K (.type t) (.ref (He.ga K "Net")) = some false)) &&
  (decide (PySem.W.findIn K (.ref (He.ga K "Net")) "__eq__" = some (some (.ref (He.ma K (He.ga K "Net") "__eq__")))) && (PySem.W.isFn K (.ref (He.ma K (He.ga K "Net") "__eq__")) && (decide (PySem.W.findIn K (.ref (He.ga K "Net")) "__ne__" = some (some (.builtin "object.__ne__"))) &&
  (tyNames.all fun t => PySem.W.notFirst K (He.ga K "Net") (.type t)))))))))
def errsB (K : PySem.W.Frag) : Bool := ciB K ("BadNet", "part") && (errB K (He.ga K "BadNet") && (decide (PySem.W.kitOne K (.ref (He.ga K "BadNet")) (.ref (He.ga K "TreeError")) = some true) && decide (PySem.W.kitOne K (.ref (He.ga K "BadNet")) (.type "ValueError") = some true)))
def ex (K : PySem.W.Frag) : Bool := netB K && errsB K
def fn : List He.DefD := [⟨("is_integer", none), "is_integer", "is_integer", defArgs sis_integer, defBody sis_integer, defScope sis_integer, [], []⟩,
  ⟨("is_between", none), "is_between", "is_between", defArgs sis_between, defBody sis_between, defScope sis_between, [], []⟩,
  ⟨("is_unlike_pair", none), "is_unlike_pair", "is_unlike_pair", defArgs sis_unlike_pair, defBody sis_unlike_pair, defScope sis_unlike_pair, [], []⟩,
  ⟨("need_net", none), "need_net", "need_net", defArgs sneed_net, defBody sneed_net, defScope sneed_net, [], []⟩,
  ⟨("every_link", none), "every_link", "every_link", defArgs severy_link, defBody severy_link, defScope severy_link, [], []⟩,
  ⟨("_law_hand", none), "_law_hand", "_law_hand", defArgs s_law_hand, defBody s_law_hand, defScope s_law_hand, [], []⟩,
  ⟨("_law_draw", none), "_law_draw", "_law_draw", defArgs s_law_draw, defBody s_law_draw, defScope s_law_draw, [], []⟩,
  ⟨("_law_any", none), "_law_any", "_law_any", defArgs s_law_any, defBody s_law_any, defScope s_law_any, [], []⟩,
  ⟨("_law_is_int", none), "_law_is_int", "_law_is_int", defArgs s_law_is_int, defBody s_law_is_int, defScope s_law_is_int, [], []⟩,
  ⟨("_law_deep", none), "_law_deep", "_law_deep", defArgs s_law_deep, defBody s_law_deep, defScope s_law_deep, [], []⟩,
  ⟨("_law_odd", none), "_law_odd", "_law_odd", defArgs s_law_odd, defBody s_law_odd, defScope s_law_odd, [], []⟩,
  ⟨("_law_turned", none), "_law_turned", "_law_turned", defArgs s_law_turned, defBody s_law_turned, defScope s_law_turned, [], []⟩,
  ⟨("_law_link", none), "_law_link", "_law_link", defArgs s_law_link, defBody s_law_link, defScope s_law_link, [], []⟩,
  ⟨("_law_grown_links", none), "_law_grown_links", "_law_grown_links", defArgs s_law_grown_links, defBody s_law_grown_links, defScope s_law_grown_links, [], []⟩,
  ⟨("_law_drawn", none), "_law_drawn", "_law_drawn", defArgs s_law_drawn, defBody s_law_drawn, defScope s_law_drawn, [], []⟩,
  ⟨("_law_is", none), "_law_is", "_law_is", defArgs s_law_is, defBody s_law_is, defScope s_law_is, [], []⟩,
  ⟨("_law_is_link", none), "_law_is_link", "_law_is_link", defArgs s_law_is_link, defBody s_law_is_link, defScope s_law_is_link, [], []⟩,
  ⟨("_law_wrong", none), "_law_wrong", "_law_wrong", defArgs s_law_wrong, defBody s_law_wrong, defScope s_law_wrong, [], []⟩,
  ⟨("_law_told", none), "_law_told", "_law_told", defArgs s_law_told, defBody s_law_told, defScope s_law_told, [], []⟩,
  ⟨("_law_bent_links", none), "_law_bent_links", "_law_bent_links", defArgs s_law_bent_links, defBody s_law_bent_links, defScope s_law_bent_links, [], []⟩,
  ⟨("_law_bent", none), "_law_bent", "_law_bent", defArgs s_law_bent, defBody s_law_bent, defScope s_law_bent, [], []⟩,
  ⟨("law", none), "law", "law", defArgs slaw, defBody slaw, defScope slaw, [], []⟩,
  ⟨("BadNet", some "__init__"), "__init__", "BadNet.__init__", defArgs sBadNet___init__, defBody sBadNet___init__, defScope sBadNet___init__, [], []⟩,
  ⟨("Net", some "__init__"), "__init__", "Net.__init__", defArgs sNet___init__, defBody sNet___init__, defScope sNet___init__, [], []⟩,
  ⟨("Net", some "__eq__"), "__eq__", "Net.__eq__", defArgs sNet___eq__, defBody sNet___eq__, defScope sNet___eq__, [], []⟩]
def glos : List Str := (["is_integer", "is_between", "is_unlike_pair", "need_net", "every_link", "_law_hand", "_law_draw", "_law_any", "_law_is_int", "_law_deep", "_law_odd", "_law_turned", "_law_link", "_law_grown_links", "_law_drawn"] : List Str) ++ (["_law_is", "_law_is_link", "_law_wrong", "_law_told", "_law_bent_links", "_law_bent", "law", "TreeError", "NoNet", "BadNet", "Net"] : List Str)
def frs : List Str := (["abs", "int", "len", "range", "isinstance", "list", "tuple", "all", "enumerate", "repr", "bool", "ValueError"] : List Str)
def fa0 : List He.Fa := [.int "FEWEST_PLACES" 2, .int "MOST_PLACES" 10, .int "MOST_LINKS" 60, .cls "Net", .noat "Net" "many", .noat "Net" "root", .noat "Net" "links", .mkr "Net", .exc "NoNet", .exm "BadNet" "BadNet" true, .exm "NoNet" "NoNet" true]
def fa : List He.Fa := fa0 ++ (glos.map He.Fa.glo ++ frs.map He.Fa.free)
abbrev R : PySem.W.OpenRow := PySem.W.OpenLaw.row PySem.Challenge.rw_sparetrees_k01_nets_judged
abbrev hk : PySem.W.Hook := He.hookX 4 fa fn [] [] ex
def ob (s : PySem.W.SharedT) : He.AlX := He.obsX 4 fa fn [] [] ex (HandSHeadRun.getT s)
theorem ob_eq (s : PySem.W.SharedT) : ob s = hk.obs s.abs := He.obsX_eq (HandSHeadRun.getT_eq s)
def others : List Str := (["is_integer", "is_between", "is_unlike_pair", "need_net", "every_link", "_law_hand", "_law_draw", "_law_any", "_law_is_int", "_law_deep", "_law_odd", "_law_turned", "_law_link", "_law_grown_links", "_law_drawn"] : List Str) ++ (["_law_is", "_law_is_link", "_law_wrong", "_law_told", "_law_bent_links", "_law_bent", "TreeError", "NoNet", "BadNet", "Net", "FEWEST_PLACES", "MOST_PLACES", "MOST_LINKS"] : List Str)
theorem run (w : World) : HandSHeadRun.RunEq R (PySem.W.view R.prog [32]) hk ob 20000 others w := by
  intro os
  kernel_rfl
end K01
namespace K01
open PySem PySem.Spec PyProof.Rows L2 Kv
theorem facts {P : Program} {w : World} {K : PySem.W.Frag} {h : Heap} {mg : Str → Option Value} {f : Addr} (X : K.In h) (G : h.Ns mainGlobals mg) (hfa : mg ("law" : Str) = some (.ref f)) (c : He.SaysX fa fn [] [] ex w h K) :
    ∃ fd : FuncData, (∀ (s : Shared) (v : Value), BindsTo s fd ⟨[v], []⟩ [("_law_script", v)]) ∧ ∀ base : Heap, K.In base → base.Ns mainGlobals mg → FnG P w K mg base 7 f fd ["_law_script"] (spLaw K) := by
  have d := c.t.d
  have in0 : ∀ {z : He.Fa}, z ∈ fa0 → z ∈ fa := fun m => List.mem_append_left _ m
  have glo : ∀ x : Str, x ∈ glos → mg x = some (.ref (He.ga K x)) := fun x m => He.glo_ok X G (d.facts (List.mem_append_right _ (List.mem_append_left _ (List.mem_map_of_mem m))))
  have fre : ∀ x : Str, x ∈ frs → mg x = none := fun x m => He.free_ok X G (d.facts (List.mem_append_right _ (List.mem_append_right _ (List.mem_map_of_mem m))))
  obtain ⟨fd0, F0⟩ := d.def_ 0 (d := fn.getD 0 ⟨("", none), "", "", defArgs slaw, [], defScope slaw, [], []⟩) rfl
  obtain ⟨fd1, F1⟩ := d.def_ 1 (d := fn.getD 1 ⟨("", none), "", "", defArgs slaw, [], defScope slaw, [], []⟩) rfl
  obtain ⟨fd2, F2⟩ := d.def_ 2 (d := fn.getD 2 ⟨("", none), "", "", defArgs slaw, [], defScope slaw, [], []⟩) rfl
  obtain ⟨fd3, F3⟩ := d.def_ 3 (d := fn.getD 3 ⟨("", none), "", "", defArgs slaw, [], defScope slaw, [], []⟩) rfl
  obtain ⟨fd4, F4⟩ := d.def_ 4 (d := fn.getD 4 ⟨("", none), "", "", defArgs slaw, [], defScope slaw, [], []⟩) rfl
  obtain ⟨fd5, F5⟩ := d.def_ 5 (d := fn.getD 5 ⟨("", none), "", "", defArgs slaw, [], defScope slaw, [], []⟩) rfl
  obtain ⟨fd6, F6⟩ := d.def_ 6 (d := fn.getD 6 ⟨("", none), "", "", defArgs slaw, [], defScope slaw, [], []⟩) rfl
  obtain ⟨fd7, F7⟩ := d.def_ 7 (d := fn.getD 7 ⟨("", none), "", "", defArgs slaw, [], defScope slaw, [], []⟩) rfl
  obtain ⟨fd8, F8⟩ := d.def_ 8 (d := fn.getD 8 ⟨("", none), "", "", defArgs slaw, [], defScope slaw, [], []⟩) rfl
  obtain ⟨fd9, F9⟩ := d.def_ 9 (d := fn.getD 9 ⟨("", none), "", "", defArgs slaw, [], defScope slaw, [], []⟩) rfl
  obtain ⟨fd10, F10⟩ := d.def_ 10 (d := fn.getD 10 ⟨("", none), "", "", defArgs slaw, [], defScope slaw, [], []⟩) rfl
  obtain ⟨fd11, F11⟩ := d.def_ 11 (d := fn.getD 11 ⟨("", none), "", "", defArgs slaw, [], defScope slaw, [], []⟩) rfl
  obtain ⟨fd12, F12⟩ := d.def_ 12 (d := fn.getD 12 ⟨("", none), "", "", defArgs slaw, [], defScope slaw, [], []⟩) rfl
  obtain ⟨fd13, F13⟩ := d.def_ 13 (d := fn.getD 13 ⟨("", none), "", "", defArgs slaw, [], defScope slaw, [], []⟩) rfl
  obtain ⟨fd14, F14⟩ := d.def_ 14 (d := fn.getD 14 ⟨("", none), "", "", defArgs slaw, [], defScope slaw, [], []⟩) rfl
  obtain ⟨fd15, F15⟩ := d.def_ 15 (d := fn.getD 15 ⟨("", none), "", "", defArgs slaw, [], defScope slaw, [], []⟩) rfl
  obtain ⟨fd16, F16⟩ := d.def_ 16 (d := fn.getD 16 ⟨("", none), "", "", defArgs slaw, [], defScope slaw, [], []⟩) rfl
  obtain ⟨fd17, F17⟩ := d.def_ 17 (d := fn.getD 17 ⟨("", none), "", "", defArgs slaw, [], defScope slaw, [], []⟩) rfl
  obtain ⟨fd18, F18⟩ := d.def_ 18 (d := fn.getD 18 ⟨("", none), "", "", defArgs slaw, [], defScope slaw, [], []⟩) rfl
  obtain ⟨fd19, F19⟩ := d.def_ 19 (d := fn.getD 19 ⟨("", none), "", "", defArgs slaw, [], defScope slaw, [], []⟩) rfl
  obtain ⟨fd20, F20⟩ := d.def_ 20 (d := fn.getD 20 ⟨("", none), "", "", defArgs slaw, [], defScope slaw, [], []⟩) rfl
  obtain ⟨fd21, F21⟩ := d.def_ 21 (d := fn.getD 21 ⟨("", none), "", "", defArgs slaw, [], defScope slaw, [], []⟩) rfl
  obtain ⟨fd22, F22⟩ := d.def_ 22 (d := fn.getD 22 ⟨("", none), "", "", defArgs slaw, [], defScope slaw, [], []⟩) rfl
  obtain ⟨fd23, F23⟩ := d.def_ 23 (d := fn.getD 23 ⟨("", none), "", "", defArgs slaw, [], defScope slaw, [], []⟩) rfl
  obtain ⟨fd24, F24⟩ := d.def_ 24 (d := fn.getD 24 ⟨("", none), "", "", defArgs slaw, [], defScope slaw, [], []⟩) rfl
  let D : Dn K mg := {
    f_is_integer := He.ga K "is_integer", fd_is_integer := fd0,
    D_is_integer := ⟨F0, glo "is_integer" (by decide +kernel), FunD.bindsN (ps := ["thing"]) F0 fun _ _ _ _ _ _ us hl => match us, hl with | [_], _ => rfl⟩,
    f_is_between := He.ga K "is_between", fd_is_between := fd1,
    D_is_between := ⟨F1, glo "is_between" (by decide +kernel), FunD.bindsN (ps := ["thing", "least", "most"]) F1 fun _ _ _ _ _ _ us hl => match us, hl with | [_, _, _], _ => rfl⟩,
    f_is_unlike_pair := He.ga K "is_unlike_pair", fd_is_unlike_pair := fd2,
    D_is_unlike_pair := ⟨F2, glo "is_unlike_pair" (by decide +kernel), FunD.bindsN (ps := ["thing", "bound"]) F2 fun _ _ _ _ _ _ us hl => match us, hl with | [_, _], _ => rfl⟩,
    f_need_net := He.ga K "need_net", fd_need_net := fd3,
    D_need_net := ⟨F3, glo "need_net" (by decide +kernel), FunD.bindsN (ps := ["thing"]) F3 fun _ _ _ _ _ _ us hl => match us, hl with | [_], _ => rfl⟩,
    f_every_link := He.ga K "every_link", fd_every_link := fd4,
    D_every_link := ⟨F4, glo "every_link" (by decide +kernel), FunD.bindsN (ps := ["net"]) F4 fun _ _ _ _ _ _ us hl => match us, hl with | [_], _ => rfl⟩,
    f_hand := He.ga K "_law_hand", fd_hand := fd5,
    D_hand := ⟨F5, glo "_law_hand" (by decide +kernel), FunD.bindsN (ps := ["_law_script"]) F5 fun _ _ _ _ _ _ us hl => match us, hl with | [_], _ => rfl⟩,
    f_draw := He.ga K "_law_draw", fd_draw := fd6,
    D_draw := ⟨F6, glo "_law_draw" (by decide +kernel), FunD.bindsN (ps := ["_law_hand_here", "_law_many"]) F6 fun _ _ _ _ _ _ us hl => match us, hl with | [_, _], _ => rfl⟩,
    f_any := He.ga K "_law_any", fd_any := fd7,
    D_any := ⟨F7, glo "_law_any" (by decide +kernel), FunD.bindsN (ps := ["_law_hand_here", "_law_some"]) F7 fun _ _ _ _ _ _ us hl => match us, hl with | [_, _], _ => rfl⟩,
    f_is_int := He.ga K "_law_is_int", fd_is_int := fd8,
    D_is_int := ⟨F8, glo "_law_is_int" (by decide +kernel), FunD.bindsN (ps := ["_law_thing", "_law_least", "_law_most"]) F8 fun _ _ _ _ _ _ us hl => match us, hl with | [_, _, _], _ => rfl⟩,
    f_deep := He.ga K "_law_deep", fd_deep := fd9,
    D_deep := ⟨F9, glo "_law_deep" (by decide +kernel), FunD.bindsN (ps := ["_law_hand_here"]) F9 fun _ _ _ _ _ _ us hl => match us, hl with | [_], _ => rfl⟩,
    f_odd := He.ga K "_law_odd", fd_odd := fd10,
    D_odd := ⟨F10, glo "_law_odd" (by decide +kernel), FunD.bindsN (ps := ["_law_hand_here", "_law_thing"]) F10 fun _ _ _ _ _ _ us hl => match us, hl with | [_, _], _ => rfl⟩,
    f_turned := He.ga K "_law_turned", fd_turned := fd11,
    D_turned := ⟨F11, glo "_law_turned" (by decide +kernel), FunD.bindsN (ps := ["_law_hand_here", "_law_things"]) F11 fun _ _ _ _ _ _ us hl => match us, hl with | [_, _], _ => rfl⟩,
    f_link := He.ga K "_law_link", fd_link := fd12,
    D_link := ⟨F12, glo "_law_link" (by decide +kernel), FunD.bindsN (ps := ["_law_hand_here", "_law_many"]) F12 fun _ _ _ _ _ _ us hl => match us, hl with | [_, _], _ => rfl⟩,
    f_grown_links := He.ga K "_law_grown_links", fd_grown_links := fd13,
    D_grown_links := ⟨F13, glo "_law_grown_links" (by decide +kernel), FunD.bindsN (ps := ["_law_hand_here", "_law_many", "_law_root"]) F13 fun _ _ _ _ _ _ us hl => match us, hl with | [_, _, _], _ => rfl⟩,
    f_drawn := He.ga K "_law_drawn", fd_drawn := fd14,
    D_drawn := ⟨F14, glo "_law_drawn" (by decide +kernel), FunD.bindsN (ps := ["_law_hand_here", "_law_most", "_law_trees", "_law_more"]) F14 fun _ _ _ _ _ _ us hl => match us, hl with | [_, _, _, _], _ => rfl⟩,
    f_is := He.ga K "_law_is", fd_is := fd15,
    D_is := ⟨F15, glo "_law_is" (by decide +kernel), FunD.bindsN (ps := ["_law_told_here", "_law_due"]) F15 fun _ _ _ _ _ _ us hl => match us, hl with | [_, _], _ => rfl⟩,
    f_is_link := He.ga K "_law_is_link", fd_is_link := fd16,
    D_is_link := ⟨F16, glo "_law_is_link" (by decide +kernel), FunD.bindsN (ps := ["_law_many", "_law_thing"]) F16 fun _ _ _ _ _ _ us hl => match us, hl with | [_, _], _ => rfl⟩,
    f_wrong := He.ga K "_law_wrong", fd_wrong := fd17,
    D_wrong := ⟨F17, glo "_law_wrong" (by decide +kernel), FunD.bindsN (ps := ["_law_many", "_law_root", "_law_links"]) F17 fun _ _ _ _ _ _ us hl => match us, hl with | [_, _, _], _ => rfl⟩,
    f_told := He.ga K "_law_told", fd_told := fd18,
    D_told := ⟨F18, glo "_law_told" (by decide +kernel), FunD.bindsN (ps := ["_law_many", "_law_root", "_law_links"]) F18 fun _ _ _ _ _ _ us hl => match us, hl with | [_, _, _], _ => rfl⟩,
    f_bent_links := He.ga K "_law_bent_links", fd_bent_links := fd19,
    D_bent_links := ⟨F19, glo "_law_bent_links" (by decide +kernel), FunD.bindsN (ps := ["_law_hand_here", "_law_links", "_law_many"]) F19 fun _ _ _ _ _ _ us hl => match us, hl with | [_, _, _], _ => rfl⟩,
    f_bent := He.ga K "_law_bent", fd_bent := fd20,
    D_bent := ⟨F20, glo "_law_bent" (by decide +kernel), FunD.bindsN (ps := ["_law_hand_here", "_law_net"]) F20 fun _ _ _ _ _ _ us hl => match us, hl with | [_, _], _ => rfl⟩,
    f_law := He.ga K "law", fd_law := fd21,
    D_law := ⟨F21, glo "law" (by decide +kernel), FunD.bindsN (ps := ["_law_script"]) F21 fun _ _ _ _ _ _ us hl => match us, hl with | [_], _ => rfl⟩,
    f_BadNet___init__ := He.ma K (He.ga K "BadNet") "__init__", fd_BadNet___init__ := fd22,
    D_BadNet___init__ := F22, b_BadNet___init__ := (FunD.bindsN (ps := ["self", "part"]) F22 fun _ _ _ _ _ _ us hl => match us, hl with | [_, _], _ => rfl),
    f_Net___init__ := He.ma K (He.ga K "Net") "__init__", fd_Net___init__ := fd23,
    D_Net___init__ := F23, b_Net___init__ := (FunD.bindsN (ps := ["self", "many", "root", "links"]) F23 fun _ _ _ _ _ _ us hl => match us, hl with | [_, _, _, _], _ => rfl),
    f_Net___eq__ := He.ma K (He.ga K "Net") "__eq__", fd_Net___eq__ := fd24,
    D_Net___eq__ := F24, b_Net___eq__ := (FunD.bindsN (ps := ["self", "other"]) F24 fun _ _ _ _ _ _ us hl => match us, hl with | [_, _], _ => rfl) }
  have B : Bn mg := ⟨⟨fre "len" (by decide +kernel), fre "int" (by decide +kernel), fre "abs" (by decide +kernel)⟩, fre "isinstance" (by decide +kernel), fre "range" (by decide +kernel), fre "bool" (by decide +kernel), fre "list" (by decide +kernel), fre "tuple" (by decide +kernel), fre "all" (by decide +kernel), fre "enumerate" (by decide +kernel), fre "repr" (by decide +kernel)⟩
  have hx : ex K = true := c.more
  obtain ⟨hn, he⟩ := He.ba hx
  obtain ⟨n1, hn⟩ := He.ba hn
  obtain ⟨n2, hn⟩ := He.ba hn
  obtain ⟨n3, hn⟩ := He.ba hn
  obtain ⟨n4, hn⟩ := He.ba hn
  obtain ⟨n5, hn⟩ := He.ba hn
  obtain ⟨n6, hn⟩ := He.ba hn
  obtain ⟨n7, hn⟩ := He.ba hn
  obtain ⟨n8, n9⟩ := He.ba hn
  obtain ⟨e1, he⟩ := He.ba he
  obtain ⟨e2, he⟩ := He.ba he
  obtain ⟨e3, e4⟩ := He.ba he
  obtain ⟨x1, x2, x3, x4⟩ := He.exc_ok (d.facts (in0 (z := .exc "NoNet") (by simp [fa0])))
  have mk : Mk K (He.ga K "Net") D.f_Net___init__ := He.mkr_ok (d.facts (in0 (z := .mkr "Net") (by simp [fa0])))
  have N : Nk2 K mg D := {
    ciB := ciB_ok e1
    gB := glo "BadNet" (by decide +kernel)
    gT := glo "TreeError" (by decide +kernel)
    gN := glo "Net" (by decide +kernel)
    gNo := glo "NoNet" (by decide +kernel)
    c2 := He.int_ok X G (d.facts (in0 (z := .int "FEWEST_PLACES" 2) (by simp [fa0])))
    c10 := He.int_ok X G (d.facts (in0 (z := .int "MOST_PLACES" 10) (by simp [fa0])))
    c60 := He.int_ok X G (d.facts (in0 (z := .int "MOST_LINKS" 60) (by simp [fa0])))
    cls := He.cls_ok (d.facts (in0 (z := .cls "Net") (by simp [fa0])))
    nm := He.noat_ok (d.facts (in0 (z := .noat "Net" "many") (by simp [fa0])))
    nr := He.noat_ok (d.facts (in0 (z := .noat "Net" "root") (by simp [fa0])))
    nl := He.noat_ok (d.facts (in0 (z := .noat "Net" "links") (by simp [fa0])))
    mkN := mk
    ca := of_decide_eq_true n1
    cn := of_decide_eq_true n2
    ct := of_decide_eq_true n3
    cm := of_decide_eq_true n4
    kit := fun t ht => of_decide_eq_true (List.all_eq_true.mp n5 t ht)
    xN := x1
    kN := x2
    sN := x3
    tN := x4
    eqN := of_decide_eq_true n6
    eqF := n7
    neN := of_decide_eq_true n8
    nf := fun t ht => List.all_eq_true.mp n9 t ht
    exB := He.exm_ok (d.facts (in0 (z := .exm "BadNet" "BadNet" true) (by simp [fa0])))
    exN := He.exm_ok (d.facts (in0 (z := .exm "NoNet" "NoNet" true) (by simp [fa0])))
    erB := e2
    kTB := of_decide_eq_true e3
    kVB := of_decide_eq_true e4
    ve := fre "ValueError" (by decide +kernel) }
  have e := hfa.symm.trans (glo "law" (by decide +kernel))
  cases e
  have bl := FunD.bindsA (ps := ["_law_script"]) F21 fun _ _ _ _ _ _ us hl => match us, hl with | [_], _ => rfl
  exact ⟨fd21, fun s v => bl s [v] rfl, fun base _ _ => ok_law (P := P) (w := w) (base := base) D B N⟩
end K01
open PySem PySem.W PySem.Calls PyProof.Rows
theorem PySem.Challenge.cw_sparetrees_k01_nets_judged_holds : PySem.Challenge.rw_sparetrees_k01_nets_judged.Holds := by
  w_on; o_law
  refine HandSHeadRun.head_any (r := OpenLaw.row PySem.Challenge.rw_sparetrees_k01_nets_judged) (q := view (OpenLaw.row PySem.Challenge.rw_sparetrees_k01_nets_judged).prog [32]) (H := K01.hk) (ob := K01.ob) (M := 20000) (loose := K01.others) (d := HandSHeadRun.topDef (OpenLaw.row PySem.Challenge.rw_sparetrees_k01_nets_judged).prog 32) (kwd := []) K01.ob_eq
    (by kernel_rfl) (fun s => by kernel_rfl) K01.run (by kernel_rfl) (by kernel_rfl) (by kernel_rfl) (by rfl) (by first | assumption | decide +kernel) (by decide +kernel) ⟨rfl, rfl, rfl, rfl, rfl, by decide +kernel⟩ ?hw ?hc
  case hw => w_witness2
  case hc =>
    refine Kv.walkG (l := PySem.Challenge.rw_sparetrees_k01_nets_judged) (n := 63) (k := 7) (x := "_law_script") rfl (by decide) (by kernel_rfl) ⟨rfl, by decide, by decide⟩ ?F
    intro w mg fa h Y G hmg0
    obtain ⟨K, KX, c⟩ := Y
    have hmg : mg ("law" : PySem.Str) = some (.ref fa) := by
      have e : (HandSHeadRun.topDef (OpenLaw.row PySem.Challenge.rw_sparetrees_k01_nets_judged).prog 32).name = ("law" : PySem.Str) := by kernel_rfl
      rw [← e]
      exact hmg0
    obtain ⟨fd, hb, hF⟩ := K01.facts (P := (PySem.Challenge.rw_sparetrees_k01_nets_judged).prog) (w := w) KX G hmg c
    exact ⟨K, fd, K01.spLaw K, KX, hb, fun H a ns hl _ _ hS => ⟨a, ns, rfl, hS, hl, fun _ => rfl⟩, hF⟩
#print axioms PySem.Challenge.cw_sparetrees_k01_nets_judged_holds
