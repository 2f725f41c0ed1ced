import PyProof.Rows.All
import Wide.All
import OpenK.AllK
import Wide.FinOn
import PySem.Challenge.RW_lanerules_k13_rivals_at_places
import HandS.ForMost
import HandS.Wide
import HandS.Conv
import HandS.More
import HandS.Style
import HandS.TupMul
import HandS.TupAny
import HandS.IsInst
import HandS.EndBits
import HandS.Evl
import KE.GoesMore
import KE.GoesEnum
import HandS.SetFor
import HandS.Strs
import HandS.DictComp
import HandS.Walk
set_option Elab.async false
set_option linter.all false
set_option maxRecDepth 100000
set_option maxHeartbeats 4000000
namespace Lr
open PySem L2
abbrev Ex := Evl.Ex
/-! ### the drawer of numbers: its dict and its list of great numbers are known only by what always holds of them -/
def canKvs (d a : Addr) (t : Int) : List (Key × V) := [(Sum.inr "deep", .ref d), (Sum.inr "all", .ref a), (Sum.inr "times", .int t)]
def DeepOk (ds : List Int) : Prop := (∀ x ∈ ds, 0 ≤ x) ∧ ds.length ≤ 63
section
variable (P : Program) (w : World)
abbrev H0 : Hp := fun _ => none
def phiC (c d a : Addr) : Heap → Prop := fun h => ∃ t : Int, ObjOk P w H0 h c (.dK (canKvs d a t))
def phiD (d : Addr) : Heap → Prop := fun h => ∃ ds : List Int, DeepOk ds ∧ ObjOk P w H0 h d (.lst (ds.map V.int))
/-- the drawer stands at c -/
def Can (H : Hp) (c : Addr) : Prop := ∃ d a cs, H c = some (.ext (phiC P w c d a)) ∧ H d = some (.ext (phiD P w d)) ∧ H a = some (.lst (cs.map V.int)) ∧ cs ≠ [] ∧ cs.length ≤ 64 ∧ d ≠ c
end
section
variable {P : Program} {w : World} {H H' : Hp} {c d a : Addr}
theorem Can.mono (h : Can P w H c) (e : Ex H H') : Can P w H' c := by
  obtain ⟨d, a, cs, h1, h2, h3, h4⟩ := h
  exact ⟨d, a, cs, e _ _ h1, e _ _ h2, e _ _ h3, h4⟩
theorem stayC {h1 h2 : Heap} (x : phiC P w c d a h1) (k : ∀ o, h1.get? c = some o → h2.get? c = some o) : phiC P w c d a h2 := by
  obtain ⟨t, x⟩ := x
  refine ⟨t, ObjOk.stay x (fun b u hb e => ?_) (fun _ q => nomatch q) fun _ _ q => nomatch q⟩
  rcases hb with rfl | q
  · exact k u e
  · cases q
theorem stayD {h1 h2 : Heap} (x : phiD P w d h1) (k : ∀ o, h1.get? d = some o → h2.get? d = some o) : phiD P w d h2 := by
  obtain ⟨t, g, x⟩ := x
  refine ⟨t, g, ObjOk.stay x (fun b u hb e => ?_) (fun _ q => nomatch q) fun _ _ q => nomatch q⟩
  rcases hb with rfl | q
  · exact k u e
  · cases q
theorem there_dK {h : Heap} {kvs : List (Key × V)} (x : ObjOk P w H h c (.dK kvs)) : ∃ o, h.get? c = some o := by
  obtain ⟨_, _, _, _, o, _, _, e, _⟩ := x
  exact ⟨o, e⟩
theorem there_lst {h : Heap} {xs : List V} (x : ObjOk P w H h c (.lst xs)) : ∃ o, h.get? c = some o := by
  obtain ⟨_, _, _, _, e⟩ := x
  exact ⟨_, e⟩
end
section
variable {X : Cx} {pins : List (Addr × Obj)} {σ : St} {H : Hp} {s : Shared} {c d a : Addr}
/-- another description of the same object -/
theorem reword {o o' : HO} (I : Inv X pins σ H s) (h : H c = some o) (mu : Mut (some o)) (new : ObjOk X.prog X.w (upd H c o') s.heap c o') (there : ∃ u, s.heap.get? c = some u) : Inv X pins σ (upd H c o') s :=
  I.write (x := c) (e := c) (t' := s.toks) (h' := s.heap) (by rw [h]; exact mu) (.inl rfl) (fun _ _ _ q => q) there new
theorem opened (I : Inv X pins σ H s) (h1 : H c = some (.ext (phiC X.prog X.w c d a))) (h2 : H d = some (.ext (phiD X.prog X.w d))) (hcd : d ≠ c) :
    ∃ t ds, DeepOk ds ∧ Inv X pins σ (upd (upd H c (.dK (canKvs d a t))) d (.lst (ds.map V.int))) s := by
  obtain ⟨⟨t, x1⟩, th1, _⟩ := I.hok c _ h1
  obtain ⟨⟨ds, g, x2⟩, th2, _⟩ := I.hok d _ h2
  have I1 := reword (o' := .dK (canKvs d a t)) I h1 trivial x1 th1
  have h3 : upd H c (.dK (canKvs d a t)) d = some (.ext (phiD X.prog X.w d)) := by rw [upd_ne hcd]; exact h2
  exact ⟨t, ds, g, reword (o' := .lst (ds.map V.int)) I1 h3 trivial x2 th2⟩
theorem closed {t : Int} {ds : List Int} (I : Inv X pins σ H s) (h1 : H c = some (.dK (canKvs d a t))) (h2 : H d = some (.lst (ds.map V.int))) (g : DeepOk ds) (hcd : d ≠ c) :
    Inv X pins σ (upd (upd H c (.ext (phiC X.prog X.w c d a))) d (.ext (phiD X.prog X.w d))) s := by
  have x1 : ObjOk X.prog X.w H0 s.heap c (.dK (canKvs d a t)) := I.hok c _ h1
  have x2 : ObjOk X.prog X.w H0 s.heap d (.lst (ds.map V.int)) := I.hok d _ h2
  have I1 := reword (o' := .ext (phiC X.prog X.w c d a)) I h1 trivial ⟨⟨t, x1⟩, there_dK x1, fun _ _ p k => stayC p k⟩ (there_dK x1)
  have h3 : upd H c (.ext (phiC X.prog X.w c d a)) d = some (.lst (ds.map V.int)) := by rw [upd_ne hcd]; exact h2
  exact reword (o' := .ext (phiD X.prog X.w d)) I1 h3 trivial ⟨⟨ds, g, x2⟩, there_lst x2, fun _ _ p k => stayD p k⟩ (there_lst x2)
end
/-- a body that opens the drawer, and closes it ahead of each return -/
def tDrawer (P : Program) (w : World) (t : TS) : TS := fun D σ H => ∃ c d a, H c = some (.ext (phiC P w c d a)) ∧ H d = some (.ext (phiD P w d)) ∧ d ≠ c ∧
  ∀ tm ds, DeepOk ds → t ⟨fun _ _ => False, fun v H' => (∃ tm' ds', H' c = some (.dK (canKvs d a tm')) ∧ H' d = some (.lst (ds'.map V.int)) ∧ DeepOk ds' ∧
    D.rt v (upd (upd H' c (.ext (phiC P w c d a))) d (.ext (phiD P w d)))), fun _ _ => False, fun _ _ => False⟩ σ (upd (upd H c (.dK (canKvs d a tm))) d (.lst (ds.map V.int)))
theorem pss_drawer {X : Cx} {st : List Stmt} {t : TS} (h : PSs X st t) : PSs X st (tDrawer X.prog X.w t) := by
  refine ⟨fun pins s σ H D I hw => ?_⟩
  obtain ⟨c, d, a, h1, h2, hcd, hw⟩ := hw
  obtain ⟨tm, ds, g, I1⟩ := opened I h1 h2 hcd
  refine thn (h.run pins s σ _ _ I1 (hw tm ds g)) fun f s1 q => ?_
  cases f with
  | next => obtain ⟨_, _, _, z⟩ := q; exact z.elim
  | brk => obtain ⟨_, _, _, z⟩ := q; exact z.elim
  | cont => obtain ⟨_, _, _, z⟩ := q; exact z.elim
  | ret v =>
    obtain ⟨x, σ', H', I2, r, tm', ds', e1, e2, g', z⟩ := q
    exact ⟨x, σ', _, closed I2 e1 e2 g' hcd, r, z⟩
end Lr

namespace Lr
open PySem L2 PySem.Spec PyProof.Rows
/-! ### a promise that is asked for only where no repr is under way -/
structure FnG (P : Program) (w : World) (K : PySem.W.Frag) (mg : Str → Option Value) (base : Heap)
    (k : Nat) (f : Addr) (fd : FuncData) (ps : List Str) (sp : Sp) : Prop where
  len : ∀ vs H Q E, sp vs H Q E → vs.length = ps.length
  go : ∀ (A : Around) (outer : List Env) (s : Shared) (H : Hp) (args : Args) (us : List Value)
      (vs : List V) (Q : VK) (E : XK), Room k A → A.guards = some [] →
      Env0 P w K mg base A outer s H → BindsTo s fd args (ps.zip us) → Vals vs us → sp vs H Q E →
      codeAny (model P w) A (.call (.ref f) args) (CR CX0 outer P w H s Q E) s
section
variable {P : Program} {w : World} {K : PySem.W.Frag} {mg : Str → Option Value} {base : Heap}
/-- by its body -/
theorem fnG {x qual : Str} {st : Stmt} {f : Addr} {fd : FuncData} {N ps : List Str} {k : Nat} {sp : Sp}
    (F : Fun K x qual st f fd) (S : FnScope N ps (defScope st))
    (len : ∀ vs H Q E, sp vs H Q E → vs.length = ps.length)
    (hbody : ∀ (cdv : Value) (A : Around) (outer : List Env) (s : Shared) (H : Hp) (vs : List V) (Q : VK) (E : XK),
      Room k (A.deeper (envOfC qual (defScope st) s.heap.objs.size f cdv)) →
      (A.deeper (envOfC qual (defScope st) s.heap.objs.size f cdv)).guards = some [] → sp vs H Q E →
      ∃ t, PSs (cxOf CX0 P w K mg base N qual (defScope st) f cdv A outer s H E).nox (defBody st) t ∧
        t { nx := fun _ G => Q .non G, rt := Q } (start N vs) H) :
    FnG P w K mg base (k + 1) f fd ps sp := by
  obtain ⟨oc, od, kV, doc, pm, an, cdv, ct, osl, rfl, lk, hcd⟩ := F.ex
  refine ⟨len, ?_⟩
  intro A outer s H args us vs Q E room hg env hb rel want
  have many := len _ _ _ _ want
  have inK : K.In s.heap := env.mod.kin.keeps fun b o e => (env.bs b o e).1
  have lim := env.mod.nolimit.keeps (h' := s.heap) fun b o e => (env.bs b o e).1
  refine codeAny_call_function room.depth (inK _ _ lk) rfl S.co S.gen rfl (PySem.W.codeRec_of inK hcd)
    (hb _ _ _ _ (wpAny_newFunctionEnv_cells S.kind (fun y hy => ?_) fun env' he s1 x1 => ?_))
  · obtain ⟨nm, val⟩ := y
    rcases S.par nm (List.of_mem_zip hy).1 with q | q
    · exact Or.inl q
    · exact Or.inr ⟨q, PySem.W.cellsFrom_some _ _ _ (Or.inl q)⟩
  · subst he
    refine ⟨lim.keeps x1.toInCall.keep, codeAny_func ?_⟩
    obtain ⟨t, ht, hq⟩ := hbody cdv A outer s H vs Q E (room.deeper _) hg want
    have J := inv_start (CX := CX0) (E := E) S room.hd env many rel x1
    refine wpAny_mono (ht.nox.run [] s1 (start N vs) H _ J hq) ?_ fun _ _ z => z
    intro fl s2 out
    cases fl with
    | ret u =>
      obtain ⟨v, σ2, H2, J2, rv, q⟩ := out
      exact ⟨v, H2, J2.os, J2.bare, J2.base, J2.hok, rv, q⟩
    | next =>
      obtain ⟨σ2, H2, J2, q⟩ := out
      exact ⟨.non, H2, J2.os, J2.bare, J2.base, J2.hok, rfl, q⟩
    | brk => obtain ⟨_, _, _, z⟩ := out; exact z.elim
    | cont => obtain ⟨_, _, _, z⟩ := out; exact z.elim
end
section
variable {X : Cx} {k : Nat} {f : Addr} {fd : FuncData} {ps : List Str} {sp : Sp} {x : Str} {p pos : Pos} {e : Expr} {es : List Expr} {t : TA}
/-- a call of such a def, where no repr is under way -/
theorem pe_callG (F : FnG X.prog X.w X.K X.mg X.base k f fd ps sp) (hr : Room k X.A) (hgd : X.A.guards = some []) (hg : Gl X x)
    (hm : X.mg x = some (.ref f)) (hk : PySem.W.keepIn X.K (.ref f) = true) (hb : Binds X.K fd ps [])
    (ha : PA X (e :: es) t) (hdb : (x == ("__debug__" : Str)) = false := by decide)
    (he : starEach (e :: es) X.env = (false, eval e X.env) :: starEach es X.env := by rfl)
    (hpl : (backTo pos (starEach es X.env)).any (·.1) = false := by rfl) :
    PE X (.Call (.Name x p) (e :: es) [] pos) (tCall sp [] E0 t) := by
  refine ⟨fun pins s σ H Q I h => wpAny_Call_Name_kw (ld_glob I hg hm ?_ hdb)⟩
  refine PySem.W.callWith_K (h₀ := X.base) I.ok.mod.kin hk ?_ he hpl
  refine thn (ha.run pos pins s σ H _ I h) ?_
  rintro us s1 ⟨vs, H1, I1, r, q⟩
  refine ⟨I1.kIn, ?_⟩
  rw [List.append_nil] at q
  have len := F.len _ _ _ _ q
  have bind := hb s1 us I1.kIn (by rw [List.append_nil, ← r.length]; exact len)
  rw [List.append_nil] at bind
  refine wpAny_call (codeAny_mono (F.go X.A X.stack s1 H1 ⟨us, []⟩ us vs Q E0 hr hgd I1.env0 bind r q) ?_)
  intro res s2 out
  cases res with
  | error u => exact False.elim out
  | ok fl =>
    cases fl with
    | ret u => exact I1.after out
    | next => exact False.elim out
    | brk => exact False.elim out
    | cont => exact False.elim out
end
/-! ### the law's end -/
theorem lawG {P : Program} {w : World} {K : PySem.W.Frag} {mg mb : Str → Option Value} {k : Nat} {fa a : Addr} {fd : FuncData} {x : Str} {sp : Sp}
    {t0 : Shared} {us : List Value} {ns : List Int} (inK : K.In t0.heap) (gl : t0.heap.Ns mainGlobals mg) (bl : t0.heap.Ns builtinsNs mb)
    (blt : ∀ y : Str, y ≠ "__name__" → mb y = bootBuiltins y) (lim : t0.heap.NoLimit) (nog : t0.gens = #[])
    (at' : t0.heap.get? a = some { cls := .type "list", data := .seq us.toArray }) (hints : IntsAre us ns) (short : ns.length ≤ sizeLine)
    (room : Room k callerA) (F : ∀ base : Heap, K.In base → base.Ns mainGlobals mg → FnG P w K mg base k fa fd [x] sp)
    (bind : ∀ (s : Shared) (u : Value), BindsTo s fd ⟨[u], []⟩ [(x, u)])
    (want : ∀ H : Hp, SqL K H a (ns.map V.int) → sp [.ref a] H (fun v _ => v = .bl true) fun _ _ _ => False) :
    codeAny (model P w) callerA (.call (.ref fa) ⟨[.ref a], []⟩)
      (fun r s2 => r = .ok (.ret (.bool true)) ∧ OldK t0.heap s2.heap ∧ s2.os = t0.os ∧ AllBare s2.gens) t0 := by
  have vals : Vals (ns.map V.int) us := vals_ints hints
  have same := hints.length
  -- over any abstract heap that tracks nothing but the script
  have main : ∀ H : Hp, (∀ b u, H b = some u → b = a ∧ K.lookup a = none ∧ ∃ o ys, u = .frz o (.lst ys)) → SqL K H a (ns.map V.int) → HOk P w H t0.heap →
      codeAny (model P w) callerA (.call (.ref fa) ⟨[.ref a], []⟩)
        (fun r s2 => r = .ok (.ret (.bool true)) ∧ OldK t0.heap s2.heap ∧ s2.os = t0.os ∧ AllBare s2.gens) t0 := by
    intro H only sq ok
    have noDict : ∀ {b : Addr} {o : Obj} {es : Array DictEntry} {ep : Nat}, t0.heap.get? b = some o → o.data = .dict es ep → H b = none := by
      intro b o es ep e dd
      cases q : H b with
      | none => rfl
      | some u =>
        obtain ⟨rfl, _⟩ := only b u q
        rw [at'] at e
        cases e
        cases dd
    have ns' : ∀ {b : Addr} {m : Str → Option Value}, t0.heap.Ns b m → (hidT t0.heap H).Ns b m := by
      rintro b m ⟨o, es, ep, e, dd, r⟩
      exact ⟨o, es, ep, hidT_get e (noDict e dd), dd, r⟩
    have inB : K.In (hidT t0.heap H) := by
      intro b o e
      refine hidT_get (inK b o e) ?_
      cases q : H b with
      | none => rfl
      | some u =>
        obtain ⟨rfl, z, _⟩ := only b u q
        rw [z] at e
        cases e
    obtain ⟨mc, l1, l2⟩ := lim
    have md : Mod K mg (hidT t0.heap H) := ⟨inB, ns' gl, ⟨mb, ns' bl, blt⟩, mc, ns' l1, l2⟩
    have env : Env0 P w K mg (hidT t0.heap H) callerA [] t0 H :=
      ⟨rfl, md, fun b o e => of_hidT e, Nat.le_of_eq (hidT_size _ _), trivial, fun b hb => absurd hb List.not_mem_nil, ok, AllBare.of_eq nog⟩
    refine codeAny_mono ((F _ inB (ns' gl)).go callerA [] t0 H ⟨[.ref a], []⟩ [.ref a] [.ref a] _ _ room rfl env (bind t0 (.ref a)) (.cons rfl .nil) (want H sq)) ?_
    intro r s2 out
    cases r with
    | error u => exact False.elim out
    | ok fl =>
      cases fl with
      | next => exact False.elim out
      | brk => exact False.elim out
      | cont => exact False.elim out
      | ret u =>
        obtain ⟨v, H2, os, bare, un, ok2, rv, q⟩ := out
        obtain rfl : v = .bl true := q
        obtain rfl : u = Value.bool true := rv
        refine ⟨rfl, OldK.of_keep ?_, os, bare⟩
        intro b o e
        cases z : H b with
        | none => exact un.keep b o e z (by intro y; cases y) (by simp)
        | some u =>
          obtain ⟨_, _, ob, ys, rfl⟩ := only b u z
          obtain ⟨e1, _⟩ := ok b _ z
          obtain ⟨e2, _⟩ := ok2 b _ (un.frzs b ob _ z)
          rw [e] at e1
          cases e1
          exact e2
  cases lk : K.lookup a with
  | some o =>
    have e := inK a o lk
    rw [at'] at e
    cases e
    refine main (fun _ => none) (fun b u z => by cases z) (.inr ⟨_, us.toArray, _, lk, rfl, rfl, rfl, ?_, by simpa using vals⟩) (fun b u z => by cases z)
    rw [List.size_toArray, same]
    exact short
  | none =>
    refine main (fun b => if b = a then some (.frz { cls := .type "list", data := .seq us.toArray } (.lst (ns.map V.int))) else none) ?_ (.inl (.inr ⟨_, if_pos rfl⟩)) ?_
    · intro b u z
      by_cases hb : b = a
      · have z2 := (if_pos hb).symm.trans z
        cases z2
        exact ⟨hb, lk, _, _, rfl⟩
      · have z2 := (if_neg hb).symm.trans z
        cases z2
    · intro b u z
      by_cases hb : b = a
      · have z2 := (if_pos hb).symm.trans z
        subst hb
        cases z2
        exact ⟨at', by rw [List.length_map]; exact short, us, _, vals, at'⟩
      · have z2 := (if_neg hb).symm.trans z
        cases z2
/-- what k_head leaves, from the promise of the law's def -/
theorem walkG {l : PySem.W.OpenLaw} {n k : Nat} {q : Program} {loose : List Str} {XP : (Str → Option Value) → Heap → Prop} {YP : World → Heap → Prop} {d : DefRec}
    {K : Params → PySem.W.Frag} {sp : World → Sp} {x : Str} (hn : l.most = some n) (hn2 : n ≤ sizeLine) (hdf : d.params.defaults = []) (hr : Room k callerA)
    (hY : ∀ (w : World) (h : Heap), YP w h → (K w.params).In h)
    (F : ∀ (w : World) (mg : Str → Option Value) (fa : Addr) (h : Heap), (K w.params).In h → h.Ns mainGlobals mg → mg d.name = some (.ref fa) →
      ∃ fd : FuncData, (∀ (s : Shared) (u : Value), BindsTo s fd ⟨[u], []⟩ [(x, u)]) ∧
        ∀ base : Heap, (K w.params).In base → base.Ns mainGlobals mg → FnG l.prog w (K w.params) mg base k fa fd [x] (sp w))
    (want : ∀ (w : World) (H : Hp) (a : Addr) (ns : List Int), ns.length ≤ n → SqL (K w.params) H a (ns.map V.int) → sp w [.ref a] H (fun v _ => v = .bl true) fun _ _ _ => False) :
    PySem.W.WalkO q loose XP YP l.row.toRowW d [] (fun f vs => PySem.call f vs) := by
  refine Att.attach_callB hn hdf ?_
  intro w s0 s1 mg mb fa o pm cd doc a vs ns G Y ho hd hcd hmg hobj hints hlen _ hg
  obtain ⟨fd, hb, hF⟩ := F w mg fa _ (hY w _ Y) G.T.g hmg
  exact lawG (hY w _ Y) G.T.g G.T.b G.T.builtins G.T.nolimit hg hobj hints (Nat.le_trans hlen hn2) hr hF hb fun H hS => want w H a ns hlen hS
end Lr

namespace Lr
open PySem L2 PySem.Spec PyProof.Rows
def keyD : Key → PyData
  | .inl i => .int i
  | .inr x => .str x
/-! ### data: what a value is, whatever it holds -/
mutual
inductive Dv (H : Hp) : V → PyData → Prop
  | non : Dv H .non .none
  | bl (b : Bool) : Dv H (.bl b) (.bool b)
  | int (i : Int) : Dv H (.int i) (.int i)
  | str (x : Str) : Dv H (.str x) (.str x)
  | lst {a : Addr} {xs : List V} {ds : List PyData} : H a = some (.lst xs) → DvAll H xs ds → Dv H (.ref a) (.list ds)
  | tup {a : Addr} {xs : List V} {ds : List PyData} : H a = some (.tup xs) → DvAll H xs ds → Dv H (.ref a) (.tuple ds)
  | tuf {a : Addr} {o : Obj} {xs : List V} {ds : List PyData} : H a = some (.frz o (.tup xs)) → DvAll H xs ds → Dv H (.ref a) (.tuple ds)
  | dic {a : Addr} {kvs : List (Key × V)} {ds : List (PyData × PyData)} : H a = some (.dK kvs) → DvKv H kvs ds → Dv H (.ref a) (.dict ds)
inductive DvAll (H : Hp) : List V → List PyData → Prop
  | nil : DvAll H [] []
  | cons {v : V} {vs : List V} {d : PyData} {ds : List PyData} : Dv H v d → DvAll H vs ds → DvAll H (v :: vs) (d :: ds)
inductive DvKv (H : Hp) : List (Key × V) → List (PyData × PyData) → Prop
  | nil : DvKv H [] []
  | cons {k : Key} {v : V} {vs : List (Key × V)} {d : PyData} {ds : List (PyData × PyData)} : Dv H v d → DvKv H vs ds → DvKv H ((k, v) :: vs) ((keyD k, d) :: ds)
end
mutual
def hasList : PyData → Bool
  | .list _ => true
  | .tuple xs => hasListAll xs
  | .dict kvs => hasListKv kvs
  | _ => false
def hasListAll : List PyData → Bool
  | [] => false
  | x :: xs => hasList x || hasListAll xs
def hasListKv : List (PyData × PyData) → Bool
  | [] => false
  | (_, v) :: xs => hasList v || hasListKv xs
end
section
variable {H H' : Hp}
mutual
theorem Dv.mono (e : Ex H H') : ∀ {v : V} {d : PyData}, Dv H v d → Dv H' v d
  | _, _, .non => .non
  | _, _, .bl b => .bl b
  | _, _, .int i => .int i
  | _, _, .str x => .str x
  | _, _, .lst h t => .lst (e _ _ h) (DvAll.mono e t)
  | _, _, .tup h t => .tup (e _ _ h) (DvAll.mono e t)
  | _, _, .tuf h t => .tuf (e _ _ h) (DvAll.mono e t)
  | _, _, .dic h t => .dic (e _ _ h) (DvKv.mono e t)
theorem DvAll.mono (e : Ex H H') : ∀ {v : List V} {d : List PyData}, DvAll H v d → DvAll H' v d
  | _, _, .nil => .nil
  | _, _, .cons a b => .cons (Dv.mono e a) (DvAll.mono e b)
theorem DvKv.mono (e : Ex H H') : ∀ {v : List (Key × V)} {d : List (PyData × PyData)}, DvKv H v d → DvKv H' v d
  | _, _, .nil => .nil
  | _, _, .cons a b => .cons (Dv.mono e a) (DvKv.mono e b)
end
theorem DvAll.len : ∀ {vs : List V} {ds : List PyData}, DvAll H vs ds → vs.length = ds.length
  | _, _, .nil => rfl
  | _, _, .cons _ t => congrArg (· + 1) t.len
theorem DvAll.app : ∀ {vs ws : List V} {ds es : List PyData}, DvAll H vs ds → DvAll H ws es → DvAll H (vs ++ ws) (ds ++ es)
  | _, _, _, _, .nil, s => s
  | _, _, _, _, .cons a t, s => .cons a (t.app s)
theorem DvAll.get : ∀ {vs : List V} {ds : List PyData} {i : Nat} {v : V}, DvAll H vs ds → vs[i]? = some v → ∃ d, ds[i]? = some d ∧ Dv H v d
  | _, _, _, _, .nil, e => by simp at e
  | _, _, 0, _, .cons a _, e => by simp at e; subst e; exact ⟨_, rfl, a⟩
  | _, _, i + 1, _, .cons _ t, e => by
    obtain ⟨d, h1, h2⟩ := t.get (i := i) (by simpa using e)
    exact ⟨d, by simpa using h1, h2⟩
theorem DvAll.getD : ∀ {vs : List V} {ds : List PyData} {i : Nat} {d : PyData}, DvAll H vs ds → ds[i]? = some d → ∃ v, vs[i]? = some v ∧ Dv H v d
  | _, _, _, _, .nil, e => by simp at e
  | _, _, 0, _, .cons a _, e => by simp at e; subst e; exact ⟨_, rfl, a⟩
  | _, _, i + 1, _, .cons _ t, e => by
    obtain ⟨v, h1, h2⟩ := t.getD (i := i) (by simpa using e)
    exact ⟨v, by simpa using h1, h2⟩
theorem DvAll.take : ∀ {vs : List V} {ds : List PyData} (n : Nat), DvAll H vs ds → DvAll H (vs.take n) (ds.take n)
  | _, _, 0, _ => .nil
  | _, _, _ + 1, .nil => .nil
  | _, _, n + 1, .cons a t => .cons a (t.take n)
theorem DvAll.drop : ∀ {vs : List V} {ds : List PyData} (n : Nat), DvAll H vs ds → DvAll H (vs.drop n) (ds.drop n)
  | _, _, 0, t => t
  | _, _, _ + 1, .nil => .nil
  | _, _, n + 1, .cons _ t => t.drop n
theorem dv_ints (H : Hp) : ∀ ns : List Int, DvAll H (ns.map V.int) (ns.map PyData.int)
  | [] => .nil
  | n :: r => .cons (.int n) (dv_ints H r)
end
/-! ### repr of data -/
theorem key_reads {h : Heap} {k : Key} {v : Value} (e : keyIs k v = true) : Reads h v (keyD k) [] := by
  rcases keyIs_shape e with ⟨i, t, rfl, rfl⟩ | ⟨x, t, rfl, rfl⟩
  · exact .int i t
  · exact .str x t
theorem keys_read {P : Program} {w : World} {h : Heap} {H : Hp} {es : List DictEntry} {vs : List (Key × Value)} (p : Pairs (mixKind P w) es vs) :
    ∀ {kvs : List (Key × V)} {ds : List (PyData × PyData)}, KV kvs vs → DvKv H kvs ds → ReadsAll h (es.map (·.key)) (ds.map (·.1)) [] := by
  induction p with
  | nil =>
    intro kvs ds q z
    cases q
    cases z
    exact .nil
  | cons h1 _ _ ih =>
    intro kvs ds q z
    cases q with
    | cons r q =>
      cases z with
      | cons a z =>
        have e := r.1
        simp only at e
        rw [← e] at h1
        exact ReadsAll.cons (as := []) (bs := []) (key_reads h1) (ih q z)
section
variable {X : Cx} {pins : List (Addr × Obj)} {σ : L2.St} {H : Hp} {s : Shared}
mutual
theorem Dv.reads (I : Inv X pins σ H s) : ∀ {v : V} {d : PyData} {u : Value}, Dv H v d → RelV v u → ∃ as, Reads s.heap u d as ∧ (hasList d = false → sysModules ∉ as)
  | _, _, _, .non, r => by cases r; exact ⟨[], .none, fun _ => List.not_mem_nil⟩
  | _, _, _, .bl b, r => by cases r; exact ⟨[], .bool b, fun _ => List.not_mem_nil⟩
  | _, _, _, .int i, r => by obtain ⟨t, rfl⟩ := r; exact ⟨[], .int i t, fun _ => List.not_mem_nil⟩
  | _, _, _, .str x, r => by obtain ⟨t, rfl⟩ := r; exact ⟨[], .str x t, fun _ => List.not_mem_nil⟩
  | _, _, _, .lst h t, r => by
    cases r
    obtain ⟨_, its, n, rv, e⟩ := I.hok _ _ h
    obtain ⟨as, q, _⟩ := DvAll.reads I t rv
    exact ⟨_ :: as, .list e rfl rfl (by simpa using q), fun z => by simp [hasList] at z⟩
  | _, _, _, .tup h t, r => by
    cases r
    obtain ⟨_, its, rv, o, e, hc, n, hd⟩ := I.hok _ _ h
    obtain ⟨as, q, z⟩ := DvAll.reads I t rv
    exact ⟨as, .tuple e hc hd (by simpa using q), fun y => z (by simpa [hasList] using y)⟩
  | _, _, _, .tuf h t, r => by
    cases r
    obtain ⟨_, _, its, rv, o, e, hc, n, hd⟩ := I.hok _ _ h
    obtain ⟨as, q, z⟩ := DvAll.reads I t rv
    exact ⟨as, .tuple e hc hd (by simpa using q), fun y => z (by simpa [hasList] using y)⟩
  | _, _, _, .dic h t, r => by
    cases r
    obtain ⟨_, ns, vs, kv, o, es, ep, e, hx, hd, _, hp, _⟩ := I.hok _ _ h
    obtain ⟨bs, q, z⟩ := DvKv.reads I t kv hp
    refine ⟨_ :: [] ++ bs, .dict e hx.1 hd (keys_read hp kv t) q, fun y hm => ?_⟩
    have y2 := z (by simpa [hasList] using y)
    rcases List.mem_cons.mp (by simpa using hm) with rfl | hm
    · simp at ns
    · exact y2 hm
theorem DvAll.reads (I : Inv X pins σ H s) : ∀ {vs : List V} {ds : List PyData} {us : List Value}, DvAll H vs ds → Vals vs us → ∃ as, ReadsAll s.heap us ds as ∧ (hasListAll ds = false → sysModules ∉ as)
  | _, _, _, .nil, .nil => ⟨[], .nil, fun _ => List.not_mem_nil⟩
  | _, _, _, .cons a b, .cons r q => by
    obtain ⟨as, h1, z1⟩ := Dv.reads I a r
    obtain ⟨bs, h2, z2⟩ := DvAll.reads I b q
    refine ⟨as ++ bs, .cons h1 h2, fun y hm => ?_⟩
    simp only [hasListAll, Bool.or_eq_false_iff] at y
    rcases List.mem_append.mp hm with m | m
    · exact z1 y.1 m
    · exact z2 y.2 m
theorem DvKv.reads (I : Inv X pins σ H s) : ∀ {kvs : List (Key × V)} {ds : List (PyData × PyData)} {vs : List (Key × Value)} {es : List DictEntry}, DvKv H kvs ds → KV kvs vs → Pairs (mixKind X.prog X.w) es vs →
    ∃ bs, ReadsAll s.heap (es.map (·.val)) (ds.map (·.2)) bs ∧ (hasListKv ds = false → sysModules ∉ bs)
  | _, _, _, _, .nil, .nil, .nil => ⟨[], .nil, fun _ => List.not_mem_nil⟩
  | _, _, _, _, .cons a b, .cons r q, .cons h1 h2 t => by
    obtain ⟨as, g1, z1⟩ := Dv.reads I a r.2
    obtain ⟨bs, g2, z2⟩ := DvKv.reads I b q t
    refine ⟨as ++ bs, .cons (by show Reads s.heap (DictEntry.val _) _ as; rw [h2]; exact g1) g2, fun y hm => ?_⟩
    simp only [hasListKv, Bool.or_eq_false_iff] at y
    rcases List.mem_append.mp hm with m | m
    · exact z1 y.1 m
    · exact z2 y.2 m
end
end
/-- what repr can show: small enough, and no list beside a dict, but for one just made -/
structure Fit (d : PyData) : Prop where
  sh : d.showable = true
  len : d.shown.length ≤ sizeLine
  dep : d.depth ≤ 60
def NoSys (v : V) (d : PyData) : Prop := hasList d = false ∨ ∃ p ds, v = .ref p ∧ d = .list ds ∧ p ≠ sysModules ∧ hasListAll ds = false
def rRepr : List V → Hp → VK → Prop := fun xs H Q => ∃ v d, xs = [v] ∧ Dv H v d ∧ Fit d ∧ (d.hasDict = true → NoSys v d) ∧ Q (.str d.shown) H
theorem reads_fit {X : Cx} {pins : List (Addr × Obj)} {σ : L2.St} {H : Hp} {s : Shared} {v : V} {d : PyData} {u : Value} (I : Inv X pins σ H s) (hd : Dv H v d) (rv : RelV v u) (ns : d.hasDict = true → NoSys v d) :
    ∃ as, Reads s.heap u d as ∧ (d.hasDict = true → sysModules ∉ as) := by
  by_cases hh : d.hasDict = true
  · rcases ns hh with n | ⟨p, ds, rfl, rfl, np, nl⟩
    · obtain ⟨as, r, z⟩ := Dv.reads I hd rv
      exact ⟨as, r, fun _ => z n⟩
    · cases rv
      cases hd with
      | lst h t =>
        obtain ⟨_, its, n, rv2, e⟩ := I.hok _ _ h
        obtain ⟨as, q, z⟩ := DvAll.reads I t rv2
        refine ⟨p :: as, .list e rfl rfl (by simpa using q), fun _ hm => ?_⟩
        rcases List.mem_cons.mp hm with e | hm
        · exact np e.symm
        · exact z nl hm
  · obtain ⟨as, r, _⟩ := Dv.reads I hd rv
    exact ⟨as, r, fun z => absurd z hh⟩
theorem call_repr {X : Cx} (hg : X.A.guards = some []) (hu : X.A.units + 64 < cLine) : CallR X (.builtin "repr") rRepr := by
  intro pins s σ H xs us Q I r h
  obtain ⟨v, d, rfl, hd, f, ns, q⟩ := h
  obtain ⟨u, rfl, rv⟩ := vals1 r
  have hdep := f.dep
  obtain ⟨as, rd, hs⟩ := reads_fit I hd rv ns
  have fin : ∀ (h' : Heap) (tk : Nat) (t : Tok), (∀ b o, s.heap.get? b = some o → h'.get? b = some o) → EP X pins σ Q (.str d.shown t) { s with heap := h', toks := tk } :=
    fun h' tk t k => ⟨.str d.shown, H, I.kept k, ⟨_, rfl⟩, q⟩
  cases hd with
  | non =>
    cases rv
    exact PySem.P.repr_of_none (fin s.heap _ _ fun _ _ e => e)
  | bl b =>
    cases rv
    exact PySem.P.repr_of_bool (fin s.heap _ _ fun _ _ e => e)
  | int i =>
    obtain ⟨t, rfl⟩ := rv
    exact PySem.P.repr_of_int (by simpa [PyData.showable] using f.sh) (fin s.heap _ _ fun _ _ e => e)
  | str x =>
    obtain ⟨t, rfl⟩ := rv
    exact PySem.P.repr_of_str (fin s.heap _ _ fun _ _ e => e) (by simpa [PyData.shown] using f.len)
  | lst h t =>
    cases rv
    exact repr_of_reads' rd f.sh hs hg (by omega) (fun _ _ e => e) (fun h' u tk k => fin h' tk u k) f.len
  | tup h t =>
    cases rv
    exact repr_of_reads' rd f.sh hs hg (by omega) (fun _ _ e => e) (fun h' u tk k => fin h' tk u k) f.len
  | tuf h t =>
    cases rv
    exact repr_of_reads' rd f.sh hs hg (by omega) (fun _ _ e => e) (fun h' u tk k => fin h' tk u k) f.len
  | dic h t =>
    cases rv
    exact repr_of_reads' rd f.sh hs hg (by omega) (fun _ _ e => e) (fun h' u tk k => fin h' tk u k) f.len
/-- a list display, its place told as no old one -/
def tLstN (t : TA) : TE := fun σ H Q => t σ H fun xs H1 => xs.length ≤ sizeLine ∧ ∀ p, H1 p = none → p ≠ sysModules → Q (.ref p) (upd H1 p (.lst xs))
theorem pe_lstN {X : Cx} {es : List Expr} {t : TA} {pos : Pos} (h : PA X es t) : PE X (.List es pos) (tLstN t) := by
  refine ⟨fun pins s σ H Q I hq => ?_⟩
  refine wpAny_List_spliced (thn (h.run pos pins s σ H _ I hq) ?_)
  rintro us s1 ⟨xs, H1, I1, r, z, q⟩
  refine ⟨by rw [← r.length]; exact z, ?_⟩
  have low : sysModules ≠ s1.heap.objs.size := by
    obtain ⟨o, _, _, e, _⟩ := I1.ok.mod.glob
    have h1 := Heap.lt_size e
    have h2 : sysModules < mainGlobals := by decide
    exact Nat.ne_of_lt (Nat.lt_of_lt_of_le (Nat.lt_trans h2 h1) (Nat.le_trans I1.ok.bsz I1.sz))
  have new : ObjOk X.prog X.w (upd H1 s1.heap.objs.size (.lst xs)) (s1.heap.push { cls := .type "list", data := .seq us.toArray }) s1.heap.objs.size (.lst xs) :=
    ⟨z, us, 0, r, Heap.get?_push_size _ rfl⟩
  exact ⟨.ref s1.heap.objs.size, _, I1.laid (t' := s1.toks) (fun b u e => Heap.get?_push_of_some _ e) (Nat.le_refl _) new, rfl, q _ (I1.hok.fresh (Nat.le_refl _)) low.symm⟩
end Lr

namespace Lr
open PySem L2 PyProof.Rows
/-- the built-in names that the text leaves alone -/
structure Blt (mg : Str → Option Value) : Prop where
  len : mg "len" = none
  range : mg "range" = none
  tuple : mg "tuple" = none
  list : mg "list" = none
  abs : mg "abs" = none
  int : mg "int" = none
  str : mg "str" = none
  bool : mg "bool" = none
  repr : mg "repr" = none
  isinstance : mg "isinstance" = none
  enumerate : mg "enumerate" = none
  sorted : mg "sorted" = none
  set : mg "set" = none
  all : mg "all" = none
  min : mg "min" = none
  max : mg "max" = none
  any : mg "any" = none
  zip : mg "zip" = none
  sum : mg "sum" = none
  reversed : mg "reversed" = none
theorem bt_len : bootBuiltins "len" = some (.builtin "len") := by decide +kernel
theorem bt_abs : bootBuiltins "abs" = some (.builtin "abs") := by decide +kernel
theorem bt_repr : bootBuiltins "repr" = some (.builtin "repr") := by decide +kernel
theorem bt_isinstance : bootBuiltins "isinstance" = some (.builtin "isinstance") := by decide +kernel
theorem bt_sorted : bootBuiltins "sorted" = some (.builtin "sorted") := by decide +kernel
theorem bt_min : bootBuiltins "min" = some (.builtin "min") := by decide +kernel
theorem bt_max : bootBuiltins "max" = some (.builtin "max") := by decide +kernel
theorem bt_any : bootBuiltins "any" = some (.builtin "any") := by decide +kernel
theorem bt_sum : bootBuiltins "sum" = some (.builtin "sum") := by decide +kernel
theorem bt_all : bootBuiltins "all" = some (.builtin "all") := by decide +kernel
theorem bt_int : bootBuiltins "int" = some (.type "int") := by decide +kernel
theorem bt_str : bootBuiltins "str" = some (.type "str") := by decide +kernel
theorem bt_tuple : bootBuiltins "tuple" = some (.type "tuple") := by decide +kernel
theorem bt_list : bootBuiltins "list" = some (.type "list") := by decide +kernel
theorem bt_set : bootBuiltins "set" = some (.type "set") := by decide +kernel
/-! ### tuples: plain or kept as they were made -/
/-- a tuple of xs stands at a, as it was made: its methods can be asked -/
def Ti (H : Hp) (a : Addr) (xs : List V) : Prop := ∃ o : Obj, H a = some (.frz o (.tup xs)) ∧ o.dict = none
/-- a tuple of xs stands at a -/
def Tu (H : Hp) (a : Addr) (xs : List V) : Prop := H a = some (.tup xs) ∨ ∃ o : Obj, H a = some (.frz o (.tup xs))
section
variable {H H' : Hp} {a : Addr} {xs : List V} {ds : List PyData} {K : PySem.W.Frag}
theorem Ti.tu (h : Ti H a xs) : Tu H a xs := by obtain ⟨o, h, _⟩ := h; exact .inr ⟨o, h⟩
theorem Tu.of (h : H a = some (.tup xs)) : Tu H a xs := .inl h
theorem Ti.ex (h : Ti H a xs) (e : Ex H H') : Ti H' a xs := by obtain ⟨o, h, d⟩ := h; exact ⟨o, e _ _ h, d⟩
theorem Tu.ex (h : Tu H a xs) (e : Ex H H') : Tu H' a xs := by
  rcases h with h | ⟨o, h⟩
  · exact .inl (e _ _ h)
  · exact .inr ⟨o, e _ _ h⟩
theorem Tu.sq (h : Tu H a xs) : SqT K H a xs := by
  rcases h with h | ⟨o, h⟩
  · exact .inl (.inl h)
  · exact .inl (.inr ⟨o, h⟩)
theorem Ti.sq (h : Ti H a xs) : SqT K H a xs := h.tu.sq
theorem Tu.dv (h : Tu H a xs) (t : DvAll H xs ds) : Dv H (.ref a) (.tuple ds) := by
  rcases h with h | ⟨o, h⟩
  · exact .tup h t
  · exact .tuf h t
theorem Ti.dv (h : Ti H a xs) (t : DvAll H xs ds) : Dv H (.ref a) (.tuple ds) := h.tu.dv t
theorem Tu.some (h : Tu H a xs) : ∃ o, H a = some o ∧ ∀ ys, o ≠ .lst ys := by
  rcases h with h | ⟨o, h⟩
  · exact ⟨_, h, fun _ z => nomatch z⟩
  · exact ⟨_, h, fun _ z => nomatch z⟩
theorem Tu.upd {p : Addr} {o : HO} (h : Tu H a xs) (hp : H p = none) : Tu (upd H p o) a xs := h.ex (Evl.Ex.new hp)
theorem Ti.upd {p : Addr} {o : HO} (h : Ti H a xs) (hp : H p = none) : Ti (L2.upd H p o) a xs := h.ex (Evl.Ex.new hp)
/-- a list may change -/
theorem Tu.lst {p : Addr} {ys zs : List V} (h : Tu H a xs) (hp : H p = .some (.lst ys)) : Tu (L2.upd H p (.lst zs)) a xs := by
  obtain ⟨o, q, n⟩ := h.some
  have ne : a ≠ p := ne_of q hp (n ys)
  rcases h with h | ⟨o, h⟩
  · exact .inl (by rw [upd_ne ne]; exact h)
  · exact .inr ⟨o, by rw [upd_ne ne]; exact h⟩
theorem Ti.lst {p : Addr} {ys zs : List V} (h : Ti H a xs) (hp : H p = .some (.lst ys)) : Ti (L2.upd H p (.lst zs)) a xs := by
  obtain ⟨o, h, d⟩ := h
  exact ⟨o, by rw [upd_ne (ne_of h hp (fun z => nomatch z))]; exact h, d⟩
end
/-- tuple(a list): kept as it is made -/
def rTupF (K : PySem.W.Frag) : List V → Hp → VK → Prop := fun xs H Q => ∃ p ys, xs = [V.ref p] ∧ SqL K H p ys ∧ ∀ (l : Addr) H', H l = none → Ex H H' → Ti H' l ys → Q (.ref l) H'
theorem k_tuple_F {X : Cx} {K : PySem.W.Frag} (hK : X.K = K) : CallR X (.type "tuple") (rTupF K) := by
  subst hK
  intro pins s σ H xs us Q I r h
  obtain ⟨p, ys, rfl, hq, q⟩ := h
  obtain ⟨u, rfl, rx⟩ := vals1 r
  cases rx
  obtain ⟨its, r', pl, hz⟩ := I.list hq
  have hlen := r'.length
  refine call_tuple_list pl.isList (fun h' kp => ?_) (by simp only [List.size_toArray] <;> omega)
  have I1 : Inv X pins σ H { s with heap := h' } := I.kept (t' := s.toks) kp
  have hn := I1.hok.fresh (Nat.le_refl _)
  have I2 : Inv X pins σ (L2.upd H h'.objs.size (.frz { cls := .type "tuple", data := .seq its.toArray } (.tup ys))) { s with heap := h'.push { cls := .type "tuple", data := .seq its.toArray } } :=
    I1.laid (t' := s.toks) (fun b o e => Heap.get?_push_of_some _ e) (Nat.le_refl _) (show ObjOk X.prog X.w _ _ _ (.frz { cls := .type "tuple", data := .seq its.toArray } (.tup ys)) from ⟨Heap.get?_push_size _ rfl, hz, its, r', IsTup.new _ _⟩)
  exact ⟨.ref h'.objs.size, _, I2, rfl, q _ _ hn (Evl.Ex.new hn) ⟨_, upd_same, rfl⟩⟩
/-! ### rules whose reading names the written part itself (for what stands in a comprehension) -/
section
variable {X : Cx} {K : PySem.W.Frag}
def rTupOf (K : PySem.W.Frag) : List V → Hp → VK → Prop := fun xs H Q => ∃ p ys, xs = [V.ref p] ∧ ((SqL K H p ys ∧ ∀ l, H l = none → Q (.ref l) (upd H l (.tup ys))) ∨ (SqT K H p ys ∧ Q (.ref p) H))
def rLstOf (K : PySem.W.Frag) : List V → Hp → VK → Prop := fun xs H Q => ∃ p ys, xs = [V.ref p] ∧ (SqL K H p ys ∨ SqT K H p ys) ∧ ∀ l, H l = none → Q (.ref l) (upd H l (.lst ys))
def rLenOf (K : PySem.W.Frag) : List V → Hp → VK → Prop := fun xs H Q => ∃ p ys, xs = [V.ref p] ∧ (SqL K H p ys ∨ SqT K H p ys) ∧ Q (.int ys.length) H
theorem k_tuple_of (h : X.K = K) : CallR X (.type "tuple") (rTupOf K) := by subst h; exact call_tuple_of
theorem k_list_of (h : X.K = K) : CallR X (.type "list") (rLstOf K) := by subst h; exact call_list_of
theorem k_len (h : X.K = K) : CallR X (.builtin "len") (rLenOf K) := by subst h; exact call_len_seq
theorem k_isi (h : X.K = K) : CallR X (.builtin "isinstance") (rIsi K) := by subst h; exact call_isi
theorem kx_list (h : X.K = K) : IxR X (rIxL K) := by subst h; exact ix_list
theorem kx_tup (h : X.K = K) : IxR X (rIxT K) := by subst h; exact ix_tup
theorem ks_list (h : X.K = K) : SlR X (rSlL K) := by subst h; exact sl_list
theorem ks_tup (h : X.K = K) : SlR X (rSlA K) := by subst h; exact sl_tupA
theorem ko_catT (h : X.K = K) : OpR X (binaryOp .Add) (rCatA K) := by subst h; exact op_catA
theorem ko_repT (h : X.K = K) : OpR X (binaryOp .Mult) (rRepT K) := by subst h; exact op_repT
theorem ko_eqD (h : X.K = K) (hu : X.A.units + 64 < cLine) : OpR X (compareOp .Eq) (rEqD K) := by subst h; exact op_eqD hu
theorem ko_neD (h : X.K = K) (hu : X.A.units + 64 < cLine) : OpR X (compareOp .NotEq) (rNeD K) := by subst h; exact op_neD hu
theorem ko_in (h : X.K = K) : OpR X (compareOp .In) (rIn K false) := by subst h; exact op_in_seq
theorem ko_notIn (h : X.K = K) : OpR X (compareOp .NotIn) (rIn K true) := by subst h; exact op_notIn_seq
theorem ki_list {tg l : Expr} {tl : TE} (h : X.K = K) (p : PE X l tl) : PI X tg l (iList K tl) := by subst h; exact pi_list p
theorem ki_tup {tg l : Expr} {tl : TE} (h : X.K = K) (p : PE X l tl) : PI X tg l (iTup K tl) := by subst h; exact pi_tup p
end
/-- a def by its name, with its promise -/
def Cal (P : Program) (w : World) (K : PySem.W.Frag) (mg : Str → Option Value) (base : Heap) (k : Nat) (x : Str) (ps : List Str) (sp : Sp) : Prop :=
  ∃ f fd, FnOk P w K mg base CX0 k f fd ps sp ∧ mg x = some (.ref f) ∧ PySem.W.keepIn K (.ref f) = true ∧ Binds K fd ps []
theorem pe_cal {X : Cx} {k : Nat} {x : Str} {ps : List Str} {sp : Sp} {e : Expr} {es : List Expr} {t : TA} {p pos : Pos} (C : Cal X.prog X.w X.K X.mg X.base k x ps sp) (hr : Room k X.A) (hg : Gl X x) (ha : PA X (e :: es) t)
    (hdb : (x == ("__debug__" : Str)) = false := by decide) (he : starEach (e :: es) X.env = (false, eval e X.env) :: starEach es X.env := by rfl) (hpl : (backTo pos (starEach es X.env)).any (·.1) = false := by rfl) :
    PE X (.Call (.Name x p) (e :: es) [] pos) (tCall sp [] E0 t) := by
  obtain ⟨f, fd, G, m, kp, b⟩ := C
  exact pe_call G hr hg m kp b .nil pass0 ha hdb he hpl
/-- a body that makes a drawer closes it ahead of its return -/
def tShut (P : Program) (w : World) (t : TS) : TS := fun D σ H => t ⟨fun _ _ => False, fun v H' => (∃ c d a tm ds, v = .ref c ∧ H' c = some (.dK (canKvs d a tm)) ∧ H' d = some (.lst (ds.map V.int)) ∧ DeepOk ds ∧ d ≠ c ∧
    D.rt v (upd (upd H' c (.ext (phiC P w c d a))) d (.ext (phiD P w d)))), fun _ _ => False, fun _ _ => False⟩ σ H
theorem pss_shut {X : Cx} {st : List Stmt} {t : TS} (h : PSs X st t) : PSs X st (tShut X.prog X.w t) := by
  refine ⟨fun pins s σ H D I hw => ?_⟩
  refine thn (h.run pins s σ _ _ I hw) fun f s1 q => ?_
  cases f with
  | next => obtain ⟨_, _, _, z⟩ := q; exact z.elim
  | brk => obtain ⟨_, _, _, z⟩ := q; exact z.elim
  | cont => obtain ⟨_, _, _, z⟩ := q; exact z.elim
  | ret v =>
    obtain ⟨x, σ', H', I2, r, c, d, a, tm, ds, rfl, e1, e2, g, hcd, z⟩ := q
    exact ⟨_, σ', _, closed I2 e1 e2 g hcd, r, z⟩
theorem at_in {α : Type} {xs : List α} {r : Int} (h0 : 0 ≤ r) (h1 : r < (xs.length : Int)) : ∃ v, v ∈ xs ∧ atI xs r = some v ∧ xs[r.toNat]? = some v := by
  have hr : r.toNat < xs.length := by omega
  have er : ((r.toNat : Nat) : Int) = r := by omega
  have q := atI_nat (List.getElem?_eq_getElem hr)
  rw [er] at q
  exact ⟨xs[r.toNat], List.getElem_mem hr, q, List.getElem?_eq_getElem hr⟩
theorem ints_of : ∀ {ys : List V}, (∀ (k : Nat) (v : V), ys[k]? = some v → ∃ z, v = .int z) → ∃ cs : List Int, ys = cs.map V.int
  | [], _ => ⟨[], rfl⟩
  | y :: r, h => by
    obtain ⟨z, rfl⟩ := h 0 y rfl
    obtain ⟨cs, rfl⟩ := ints_of (ys := r) fun k v e => h (k + 1) v (by simpa using e)
    exact ⟨z :: cs, rfl⟩
theorem cut_all {xs : List V} {n : Nat} (h : xs.length ≤ n) : cutV xs none (some (n : Int)) = xs := by
  unfold cutV
  rw [HT.sIx_none, HT.sIx_nat, Nat.min_eq_right h]
  simp
/-! ### comprehensions whose items stay known while the new list grows -/
/-- all but lists is as it was -/
def Exl (H H' : Hp) : Prop := ∀ a o, (∀ xs, o ≠ .lst xs) → H a = some o → H' a = some o
theorem Exl.refl (H : Hp) : Exl H H := fun _ _ _ h => h
theorem Exl.of {H H' : Hp} (e : Ex H H') : Exl H H' := fun a o _ h => e a o h
theorem Exl.trans {H H1 H2 : Hp} (a : Exl H H1) (b : Exl H1 H2) : Exl H H2 := fun x o n h => b x o n (a x o n h)
theorem Exl.grow {H : Hp} {D : Addr} {xs ys : List V} (h : H D = some (.lst xs)) : Exl H (upd H D (.lst ys)) := fun a o n e => by
  rw [upd_ne (ne_of e h (n xs))]
  exact e
theorem nl_tup {ds : List PyData} (h : hasList (.tuple ds) = false) : hasListAll ds = false := by simpa [hasList] using h
theorem nl_dic {ds : List (PyData × PyData)} (h : hasList (.dict ds) = false) : hasListKv ds = false := by simpa [hasList] using h
theorem nl_hd {d : PyData} {ds : List PyData} (h : hasListAll (d :: ds) = false) : hasList d = false := by simp only [hasListAll, Bool.or_eq_false_iff] at h; exact h.1
theorem nl_tl {d : PyData} {ds : List PyData} (h : hasListAll (d :: ds) = false) : hasListAll ds = false := by simp only [hasListAll, Bool.or_eq_false_iff] at h; exact h.2
theorem nk_hd {k d : PyData} {ds : List (PyData × PyData)} (h : hasListKv ((k, d) :: ds) = false) : hasList d = false := by simp only [hasListKv, Bool.or_eq_false_iff] at h; exact h.1
theorem nk_tl {k d : PyData} {ds : List (PyData × PyData)} (h : hasListKv ((k, d) :: ds) = false) : hasListKv ds = false := by simp only [hasListKv, Bool.or_eq_false_iff] at h; exact h.2
theorem nl_lst {ds : List PyData} {p : Prop} (h : hasList (.list ds) = false) : p := by simp [hasList] at h
theorem tup_nolst {xs : List V} : ∀ ys, HO.tup xs ≠ .lst ys := fun _ y => nomatch y
theorem frz_nolst {o : Obj} {u : HO} : ∀ ys, HO.frz o u ≠ .lst ys := fun _ y => nomatch y
theorem dK_nolst {xs : List (Key × V)} : ∀ ys, HO.dK xs ≠ .lst ys := fun _ y => nomatch y
theorem yesT {σ : L2.St} {H : Hp} {A B : Hp → Prop} (h : A H) : tYes σ H (fun b H3 => if b = true then A H3 else B H3) := by
  show (if true = true then A H else B H)
  rw [if_pos rfl]
  exact h
section
variable {H H' : Hp}
mutual
theorem Dv.exl (e : Exl H H') : ∀ {v : V} {d : PyData}, Dv H v d → (hasList d = false → Dv H' v d)
  | _, _, .non => fun _ => .non
  | _, _, .bl b => fun _ => .bl b
  | _, _, .int i => fun _ => .int i
  | _, _, .str x => fun _ => .str x
  | _, _, .lst _ _ => fun z => nl_lst z
  | _, _, .tup h t => fun z => .tup (e _ _ tup_nolst h) (DvAll.exl e t (nl_tup z))
  | _, _, .tuf h t => fun z => .tuf (e _ _ frz_nolst h) (DvAll.exl e t (nl_tup z))
  | _, _, .dic h t => fun z => .dic (e _ _ dK_nolst h) (DvKv.exl e t (nl_dic z))
theorem DvAll.exl (e : Exl H H') : ∀ {v : List V} {d : List PyData}, DvAll H v d → (hasListAll d = false → DvAll H' v d)
  | _, _, .nil => fun _ => .nil
  | _, _, .cons a b => fun z => .cons (Dv.exl e a (nl_hd z)) (DvAll.exl e b (nl_tl z))
theorem DvKv.exl (e : Exl H H') : ∀ {v : List (Key × V)} {d : List (PyData × PyData)}, DvKv H v d → (hasListKv d = false → DvKv H' v d)
  | _, _, .nil => fun _ => .nil
  | _, _, .cons a b => fun z => .cons (Dv.exl e a (nk_hd z)) (DvKv.exl e b (nk_tl z))
end
end
/-- an item's value is told by the item's place: what M says of it holds on while other lists change -/
def Gives (te : TE) (σ : L2.St) (H1 : Hp) (M : V → Hp → Prop) : Prop := ∀ H', Ex H1 H' → ∀ Q : VK, (∀ v H2, Ex H' H2 → M v H2 → Q v H2) → te σ H' Q
section
variable {K : PySem.W.Frag} {a : Addr} {xs : List V} {te : TE} {vs : List Nat} {σ : L2.St} {H1 : Hp} {D : Addr} {Qd : Hp → Prop} {j : Nat}
theorem made_turn {i : Nat} {M : Nat → V → Hp → Prop} {σ2 : L2.St} {H' : Hp} {ys : List V} (hD : H1 D = none) (st : ∀ i v G G', Ex H1 G → Ex H1 G' → Exl G G' → M i v G → M i v G') (e : Ex H1 H') (hy : H' D = some (.lst ys)) (hl : ys.length = i) (hi : i < 100000)
    (hm : ∀ (k : Nat) (v : V), ys[k]? = some v → M k v H') (he : Gives te σ2 H1 (M i)) :
    te σ2 H' fun y H4 => ∃ acc, H4 D = some (.lst acc) ∧ acc.length < sizeLine ∧ ∃ zs : List V, zs.length = i + 1 ∧ Ex H1 (upd H4 D (.lst (acc ++ [y]))) ∧ upd H4 D (.lst (acc ++ [y])) D = some (.lst zs) ∧ ∀ (k : Nat) (v : V), zs[k]? = some v → M k v (upd H4 D (.lst (acc ++ [y]))) := by
  refine he H' e _ fun v H2 e2 m => ⟨ys, e2 _ _ hy, by rw [hl]; exact Evl.sz_lt hi, ys ++ [v], by simp [hl], Evl.Ex.mut (e.trans e2) hD, upd_same, fun k u hk => ?_⟩
  have g : Exl H2 (upd H2 D (.lst (ys ++ [v]))) := Exl.grow (e2 _ _ hy)
  have e3 : Ex H1 (upd H2 D (.lst (ys ++ [v]))) := Evl.Ex.mut (e.trans e2) hD
  by_cases hk2 : k < ys.length
  · rw [List.getElem?_append_left hk2] at hk
    exact st k u H' _ e e3 ((Exl.of e2).trans g) (hm k u hk)
  · have hz := (List.getElem?_eq_some_iff.mp hk).1
    have ek : k = i := by simp at hz; omega
    subst ek
    rw [List.getElem?_append_right (by omega), hl] at hk
    simp at hk
    subst hk
    exact st k v H2 _ (e.trans e2) e3 g m
/-- [e for x in a list] -/
theorem made_list (M : Nat → V → Hp → Prop) (hD : H1 D = none) (hx : SqL K H1 a xs) (hn : xs.length < 100000) (st : ∀ i v G G', Ex H1 G → Ex H1 G' → Exl G G' → M i v G → M i v G')
    (hw : ∀ x, wipe ((wipe σ vs).set j (some x)) vs = wipe σ vs) (he : ∀ i x, xs[i]? = some x → Gives te ((wipe σ vs).set j (some x)) H1 (M i))
    (hd : ∀ (ys : List V) H', ys.length = xs.length → Ex H1 H' → H' D = some (.lst ys) → (∀ (k : Nat) (v : V), ys[k]? = some v → M k v H') → Qd H') :
    ∃ W : Nat → Nat → Hp → Prop, (∃ m, W 0 m (upd H1 D (.lst []))) ∧ ∀ i m H, W i m H →
      ((Itl K a).stop i H ∧ Qd H) ∨ ((Itl K a).go i H ∧ ∃ Nx : Hp → Prop, (∀ H', Nx H' → ∃ m', m' < m ∧ W (i + 1) m' H') ∧ ∀ x H', (Itl K a).yld i H x H' → gName j x (wipe σ vs) H' fun σ2 H2 => wipe σ2 vs = wipe σ vs ∧ tYes σ2 H2 fun b H3 =>
        if b = true then te σ2 H3 fun y H4 => ∃ acc, H4 D = some (.lst acc) ∧ acc.length < sizeLine ∧ Nx (upd H4 D (.lst (acc ++ [y]))) else Nx H3) :=
  lc_list (xs := xs) (fun i H' => ∃ zs : List V, zs.length = i ∧ Ex H1 H' ∧ H' D = some (.lst zs) ∧ ∀ (k : Nat) (v : V), zs[k]? = some v → M k v H') ⟨[], rfl, Evl.Ex.new hD, upd_same, fun k v z => by simp at z⟩
    (fun i H' _ ⟨_, _, e, _⟩ => Evl.ex_l e hx) (fun i x H' hi ⟨zs, hl, e, hy, hm⟩ => by
      have lt := (List.getElem?_eq_some_iff.mp hi).1
      exact ⟨hw x, yesT (made_turn hD st e hy hl (by omega) hm (he i x hi))⟩)
    (fun H' ⟨zs, hl, e, hy, hm⟩ => hd zs H' hl e hy hm)
/-- [e for x in a tuple] -/
theorem made_tup (M : Nat → V → Hp → Prop) (hD : H1 D = none) (hx : SqT K H1 a xs) (hn : xs.length < 100000) (st : ∀ i v G G', Ex H1 G → Ex H1 G' → Exl G G' → M i v G → M i v G')
    (hw : ∀ x, wipe ((wipe σ vs).set j (some x)) vs = wipe σ vs) (he : ∀ i x, xs[i]? = some x → Gives te ((wipe σ vs).set j (some x)) H1 (M i))
    (hd : ∀ (ys : List V) H', ys.length = xs.length → Ex H1 H' → H' D = some (.lst ys) → (∀ (k : Nat) (v : V), ys[k]? = some v → M k v H') → Qd H') :
    ∃ W : Nat → Nat → Hp → Prop, (∃ m, W 0 m (upd H1 D (.lst []))) ∧ ∀ i m H, W i m H →
      ((Itt K a).stop i H ∧ Qd H) ∨ ((Itt K a).go i H ∧ ∃ Nx : Hp → Prop, (∀ H', Nx H' → ∃ m', m' < m ∧ W (i + 1) m' H') ∧ ∀ x H', (Itt K a).yld i H x H' → gName j x (wipe σ vs) H' fun σ2 H2 => wipe σ2 vs = wipe σ vs ∧ tYes σ2 H2 fun b H3 =>
        if b = true then te σ2 H3 fun y H4 => ∃ acc, H4 D = some (.lst acc) ∧ acc.length < sizeLine ∧ Nx (upd H4 D (.lst (acc ++ [y]))) else Nx H3) :=
  lc_tup (xs := xs) (fun i H' => ∃ zs : List V, zs.length = i ∧ Ex H1 H' ∧ H' D = some (.lst zs) ∧ ∀ (k : Nat) (v : V), zs[k]? = some v → M k v H') ⟨[], rfl, Evl.Ex.new hD, upd_same, fun k v z => by simp at z⟩
    (fun i H' _ ⟨_, _, e, _⟩ => Evl.ex_t e hx) (fun i x H' hi ⟨zs, hl, e, hy, hm⟩ => by
      have lt := (List.getElem?_eq_some_iff.mp hi).1
      exact ⟨hw x, yesT (made_turn hD st e hy hl (by omega) hm (he i x hi))⟩)
    (fun H' ⟨zs, hl, e, hy, hm⟩ => hd zs H' hl e hy hm)
/-- [e for k in range(n)] -/
theorem made_range {n : Nat} (M : Nat → V → Hp → Prop) (hD : H1 D = none) (hn : n < 100000) (st : ∀ i v G G', Ex H1 G → Ex H1 G' → Exl G G' → M i v G → M i v G')
    (hw : ∀ x, wipe ((wipe σ vs).set j (some x)) vs = wipe σ vs) (he : ∀ i : Nat, i < n → Gives te ((wipe σ vs).set j (some (.int (i : Int)))) H1 (M i))
    (hd : ∀ (ys : List V) H', ys.length = n → Ex H1 H' → H' D = some (.lst ys) → (∀ (k : Nat) (v : V), ys[k]? = some v → M k v H') → Qd H') :
    ∃ W : Nat → Nat → Hp → Prop, (∃ m, W 0 m (upd H1 D (.lst []))) ∧ ∀ i m H, W i m H →
      ((Itr 0 n).stop i H ∧ Qd H) ∨ ((Itr 0 n).go i H ∧ ∃ Nx : Hp → Prop, (∀ H', Nx H' → ∃ m', m' < m ∧ W (i + 1) m' H') ∧ ∀ x H', (Itr 0 n).yld i H x H' → gName j x (wipe σ vs) H' fun σ2 H2 => wipe σ2 vs = wipe σ vs ∧ tYes σ2 H2 fun b H3 =>
        if b = true then te σ2 H3 fun y H4 => ∃ acc, H4 D = some (.lst acc) ∧ acc.length < sizeLine ∧ Nx (upd H4 D (.lst (acc ++ [y]))) else Nx H3) :=
  lc_range (lo := 0) (n := n) (fun i H' => ∃ zs : List V, zs.length = i ∧ Ex H1 H' ∧ H' D = some (.lst zs) ∧ ∀ (k : Nat) (v : V), zs[k]? = some v → M k v H') ⟨[], rfl, Evl.Ex.new hD, upd_same, fun k v z => by simp at z⟩
    (fun i H' hi ⟨zs, hl, e, hy, hm⟩ => by
      have g := made_turn hD st e hy hl (by omega) hm (he i hi)
      have e0 : (0 : Int) + (i : Int) = (i : Int) := Int.zero_add _
      show wipe ((wipe σ vs).set j (some (.int (0 + (i : Int))))) vs = wipe σ vs ∧ tYes ((wipe σ vs).set j (some (.int (0 + (i : Int))))) H' _
      rw [e0]
      exact ⟨hw _, yesT g⟩)
    (fun H' ⟨zs, hl, e, hy, hm⟩ => hd zs H' hl e hy hm)
end
/-! ### tuples cut and joined: some tuple of that content, new or old -/
section
variable {K : PySem.W.Frag} {H : Hp} {a b : Addr} {xs ys : List V} {Q : VK}
theorem cut_whole {lo hi : Option Int} (h : HT.sIx xs.length 0 lo = 0 ∧ HT.sIx xs.length xs.length hi = xs.length) : cutV xs lo hi = xs := by
  unfold cutV
  rw [h.1, h.2]
  simp
theorem sl_at {lo hi : Option Int} (h : H a = some (.tup xs)) (k : ∀ b H', Ex H H' → H' b = some (.tup (cutV xs lo hi)) → Q (.ref b) H') : rSlA K (.ref a) lo hi H Q :=
  ⟨a, xs, rfl, SqT.of h, fun w => k a H (Evl.Ex.refl H) (by rw [cut_whole w]; exact h), fun _ p hp => k p _ (Evl.Ex.new hp) upd_same⟩
theorem cat_at (h1 : H a = some (.tup xs)) (h2 : H b = some (.tup ys)) (hl : xs.length + ys.length ≤ 100000) (k : ∀ p H', Ex H H' → H' p = some (.tup (xs ++ ys)) → Q (.ref p) H') : rCatA K (.ref a) (.ref b) H Q :=
  ⟨a, b, xs, ys, rfl, rfl, SqT.of h1, SqT.of h2, Evl.sz_of hl, fun z => k b H (Evl.Ex.refl H) (by subst z; exact h2), fun _ z => k a H (Evl.Ex.refl H) (by subst z; rw [List.append_nil]; exact h1), fun _ _ p hp => k p _ (Evl.Ex.new hp) upd_same⟩
end
theorem cut_from {xs : List V} {k : Nat} : cutV xs (some (k : Int)) none = xs.drop k := by
  unfold cutV
  rw [HT.sIx_none, HT.sIx_nat]
  by_cases h : k ≤ xs.length
  · rw [Nat.min_eq_left h, List.take_of_length_le (by simp)]
  · rw [Nat.min_eq_right (by omega), List.drop_of_length_le (Nat.le_refl _), List.drop_of_length_le (by omega)]
    simp
theorem cut_to {xs : List V} {k : Nat} : cutV xs none (some (k : Int)) = xs.take k := by
  unfold cutV
  rw [HT.sIx_none, HT.sIx_nat]
  by_cases h : k ≤ xs.length
  · rw [Nat.min_eq_left h]
    simp
  · rw [Nat.min_eq_right (by omega)]
    simp [List.take_of_length_le (show xs.length ≤ k by omega)]
/-! ### [x for x in a tuple if ..] -/
section
variable {K : PySem.W.Frag} {a : Addr} {xs : List V} {tt : TT} {te : TE} {vs : List Nat} {σ : L2.St} {H1 : Hp} {D : Addr} {Qd : Hp → Prop} {j : Nat}
theorem filt_tup (f : V → Bool) (hD : H1 D = none) (hx : SqT K H1 a xs) (hn : xs.length < 100000) (hw : ∀ x, wipe ((wipe σ vs).set j (some x)) vs = wipe σ vs)
    (ht : ∀ x H', x ∈ xs → Ex H1 H' → ∀ Q : Bool → Hp → Prop, Q (f x) H' → tt ((wipe σ vs).set j (some x)) H' Q) (he : ∀ x H', Ex H1 H' → ∀ Q : VK, Q x H' → te ((wipe σ vs).set j (some x)) H' Q)
    (hd : ∀ H', Ex H1 H' → H' D = some (.lst (xs.filter f)) → Qd H') :
    ∃ W : Nat → Nat → Hp → Prop, (∃ m, W 0 m (upd H1 D (.lst []))) ∧ ∀ i m H, W i m H →
      ((Itt K a).stop i H ∧ Qd H) ∨ ((Itt K a).go i H ∧ ∃ Nx : Hp → Prop, (∀ H', Nx H' → ∃ m', m' < m ∧ W (i + 1) m' H') ∧ ∀ x H', (Itt K a).yld i H x H' → gName j x (wipe σ vs) H' fun σ2 H2 => wipe σ2 vs = wipe σ vs ∧ tt σ2 H2 fun b H3 =>
        if b = true then te σ2 H3 fun y H4 => ∃ acc, H4 D = some (.lst acc) ∧ acc.length < sizeLine ∧ Nx (upd H4 D (.lst (acc ++ [y]))) else Nx H3) := by
  refine lc_tup (xs := xs) (fun i H' => Ex H1 H' ∧ H' D = some (.lst ((xs.take i).filter f)) ∧ i ≤ xs.length) ⟨Evl.Ex.new hD, by simp [upd_same], Nat.zero_le _⟩ (fun i H' _ h => Evl.ex_t h.1 hx) ?_ ?_
  · rintro i x H' hi ⟨e, hy, hle⟩
    have lt := (List.getElem?_eq_some_iff.mp hi).1
    have hxm : x ∈ xs := List.mem_of_getElem? hi
    have step : xs.take (i + 1) = xs.take i ++ [x] := by
      rw [List.take_succ, hi]
      rfl
    refine ⟨hw x, ht x H' hxm e _ ?_⟩
    cases hf : f x with
    | true =>
      refine iteT (he x H' e _ ⟨_, hy, ?_, Evl.Ex.mut e hD, ?_, lt⟩)
      · refine Nat.lt_of_le_of_lt (List.length_filter_le _ _) (Evl.sz_lt ?_)
        rw [List.length_take]
        omega
      · rw [upd_same, step, List.filter_append]
        simp [hf]
    | false =>
      refine iteF ⟨e, ?_, lt⟩
      rw [hy, step, List.filter_append]
      simp [hf]
  · rintro H' ⟨e, hy, _⟩
    rw [List.take_of_length_le (Nat.le_refl _)] at hy
    exact hd H' e hy
end
end Lr

namespace Lr
open PySem L2 PySem.Spec PyProof.Rows
/-! ### for i, c in enumerate(a text) -/
def ItS (z : Str) : It :=
  ⟨fun i _ => i < z.cps.size, fun i H v G => ∃ T c, v = .ref T ∧ H T = none ∧ z.cps[i]? = some c ∧ G = upd H T (.tup [.int (i : Nat), .str ⟨#[c]⟩]), fun i _ => z.cps.size ≤ i⟩
theorem turn_enumS {P : Program} {w : World} {K : PySem.W.Frag} {elts : List Expr} {kk : Nat} {tpos : Pos} (z : Str) (tk : Tok) (e it : Addr) :
    Turn P w K (.Tuple elts kk tpos) (ItS z) [e, it] e (fun i h => (∃ old, IsEnum h e it ((i : Nat) : Int) old) ∧ h.IsStrIter it (strIterType z) z tk i ∧ e ≠ it ∧ i ≤ z.cps.size) where
  mem := by simp
  obj := by
    rintro i h ⟨⟨old, he⟩, ⟨o, ho, hc, hd⟩, _⟩ b hb
    rcases (show b = e ∨ b = it by simpa using hb) with q | q
    · subst q
      exact ⟨_, he, fun v q => nomatch q⟩
    · subst q
      exact ⟨o, ho, fun v q => by rw [hd] at q; cases q⟩
  keep := by
    rintro i h h2 ⟨⟨old, he⟩, ⟨o, ho, r⟩, hne⟩ k
    exact ⟨⟨old, k e (by simp) _ he⟩, ⟨o, k it (by simp) _ ho, r⟩, hne⟩
  item := by
    intro X hP hw hK hc i pins s σ H E I hf st hg
    subst hP hw hK
    obtain ⟨⟨old, he⟩, hit, hne, hle⟩ := st
    have eLt : e < s.heap.objs.size := Heap.lt_size he
    have iLt : it < s.heap.objs.size := by obtain ⟨_, q, _⟩ := hit; exact Heap.lt_size q
    have D := Draws.text (prog := X.prog) (w := X.w) (A := X.A.in1) (I.ok.hd hc) it z tk
    refine wpAny_pyNext_enum_itemD D he hit hg hne (by simpa using hne) fun x h2 t2 hx out hit2 hT hsz hk => ?_
    obtain ⟨c, u, hcx, rfl⟩ := hx
    refine ⟨_, rfl, wpAny_letOwnedTupleGo_enum (s := { s with heap := h2, toks := t2 + 1 }) out fun h3 he3 sb => ?_⟩
    have hT3 : h3.get? s.heap.objs.size = some { cls := .type "tuple", data := .seq #[.int i t2, .str ⟨#[c]⟩ u] } := (sb.2 _ (Nat.ne_of_gt eLt)).trans hT
    have new : ObjOk X.prog X.w (upd H s.heap.objs.size (.tup [.int (i : Nat), .str ⟨#[c]⟩])) h3 s.heap.objs.size (.tup [.int (i : Nat), .str ⟨#[c]⟩]) :=
      ⟨(by show 2 ≤ sizeLine; decide), [.int i t2, .str ⟨#[c]⟩ u], .cons ⟨_, rfl⟩ (.cons ⟨_, rfl⟩ .nil), ⟨_, hT3, rfl, _, rfl⟩⟩
    have kept : ∀ b ob, b ∉ [e, it] → s.heap.get? b = some ob → h3.get? b = some ob := fun b ob hb q =>
      (sb.2 b (fun y => hb (by simp [y]))).trans (hk b ob (fun y => hb (by simp [y])) (fun y => hb (by simp [y])) q)
    have I3 : Inv X pins σ (upd H s.heap.objs.size (.tup [.int (i : Nat), .str ⟨#[c]⟩])) { s with heap := h3, toks := t2 + 1 } := I.turnedNew (ch := [e, it]) kept hf (Nat.le_refl _) new
    refine ⟨.ref s.heap.objs.size, _, I3, rfl, ⟨_, c, rfl, I.hok.fresh (Nat.le_refl _), hcx, rfl⟩, ⟨⟨.str ⟨#[c]⟩ u, ?_⟩, ?_, hne, hg⟩, fun b hb => ?_⟩
    · have e1 : ((i + 1 : Nat) : Int) = (i : Int) + 1 := by omega
      rw [e1]
      exact he3
    · obtain ⟨o, ho, r⟩ := hit2
      exact ⟨o, (sb.2 it (Ne.symm hne)).trans ho, r⟩
    · have lt : b < s.heap.objs.size := by
        rcases (show b = e ∨ b = it by simpa using hb) with q | q <;> (rw [q]; assumption)
      rw [upd_ne (Nat.ne_of_lt lt)]
      exact (hf b hb).1
  done := by
    intro X hP hw hK hc i pins s σ H E I hf st hg
    subst hP hw hK
    obtain ⟨⟨old, he⟩, hit, hne, hle⟩ := st
    have ei : i = z.cps.size := Nat.le_antisymm hle hg
    subst ei
    have D := Draws.text (prog := X.prog) (w := X.w) (A := X.A.in1) (I.ok.hd hc) it z tk
    obtain ⟨f0, f1, f2, f3, f4, f5⟩ := hf it (by simp)
    exact wpAny_pyNext_enum_endD D he hit fun h2 eb => ⟨rfl, I.turned (t' := s.toks) (fun b o hb q => eb b o hb q) f0 f1 f3 f4 f5⟩
  self := by
    rintro A i s Q E ⟨⟨_, he⟩, _⟩ h
    exact wpAny_pyIter_enum he h
def iEnumS (ta : TA) : TI := fun σ H R => ta σ H fun vs G => ∃ z, vs = [.str z] ∧ R (ItS z) G
theorem pi_enumS {X : Cx} {e : Expr} {ta : TA} {p pos tpos : Pos} {elts : List Expr} {kk : Nat} (hg : Gl X "enumerate") (hm : X.mg "enumerate" = none) (ha : PA X [e] ta)
    (hs : starEach [e] X.env = [(false, eval e X.env)] := by rfl) : PI X (.Tuple elts kk tpos) (.Call (.Name "enumerate" p) [e] [] pos) (iEnumS ta) := by
  refine ⟨fun pins s σ H R I h => ?_⟩
  refine Call_ (ld_blt I hg hm boot_enumerate (PyProof.Rows.callWith_type1 (thn (ha.run pos pins s σ H _ I h) ?_) hs rfl))
  rintro us s1 ⟨vs, G, I1, r1, z, rfl, q⟩
  cases r1 with
  | cons r rr =>
    cases rr
    obtain ⟨tk, rfl⟩ := r
    refine call_enumerate_str fun h2 he hit hsz hk => wpAny_pyIter_enum he ?_
    have I2 : Inv X pins σ G { s1 with heap := h2 } := I1.kept (t' := s1.toks) hk
    refine ⟨s1.heap.objs.size + 1, [s1.heap.objs.size + 1, s1.heap.objs.size], _, _, G, rfl, I2, turn_enumS z tk (s1.heap.objs.size + 1) s1.heap.objs.size, ⟨⟨.none, he⟩, hit, Nat.succ_ne_self _, Nat.zero_le _⟩, fun b hb => ?_, q⟩
    have le : s1.heap.objs.size ≤ b := by
      rcases (show b = s1.heap.objs.size + 1 ∨ b = s1.heap.objs.size by simpa using hb) with y | y
      · rw [y]; exact Nat.le_succ _
      · rw [y]; exact Nat.le_refl _
    exact I1.fpOk le (I1.hok.fresh le)
/-- the loop: an invariant over the turn's number; the pair is new -/
theorem for_enumS {K : PySem.W.Frag} {z : Str} {i j : Nat} {tb : TS} {D : Ends} {σ : L2.St} {H : Hp} (Pv : Nat → L2.St → Hp → Prop) (h0 : Pv 0 σ H)
    (hs : ∀ n c σ2 H2 H3, z.cps[n]? = some c → Pv n σ2 H2 → Ex H2 H3 → tb { D with nx := Pv (n + 1), ct := Pv (n + 1), bk := D.nx } ((σ2.set i (some (.int (n : Int)))).set j (some (.str ⟨#[c]⟩))) H3)
    (hd : ∀ σ2 H2, Pv z.cps.size σ2 H2 → D.nx σ2 H2) :
    ∃ W : Nat → Nat → L2.St → Hp → Prop, (∃ m, W 0 m σ H) ∧ ∀ n m σ2 H2, W n m σ2 H2 →
      ((ItS z).stop n H2 ∧ D.nx σ2 H2) ∨ ((ItS z).go n H2 ∧ ∃ N : L2.St → Hp → Prop, (∀ σ3 H3, N σ3 H3 → ∃ m2, m2 < m ∧ W (n + 1) m2 σ3 H3) ∧
        ∀ x H3, (ItS z).yld n H2 x H3 → gTup K 2 (gCons (gName i) (gCons (gName j) gNil)) x σ2 H3 fun σ4 H4 => tb { D with nx := N, ct := N, bk := D.nx } σ4 H4) := by
  refine ⟨fun n m σ2 H2 => m = z.cps.size - n ∧ n ≤ z.cps.size ∧ Pv n σ2 H2, ⟨_, rfl, Nat.zero_le _, h0⟩, ?_⟩
  rintro n m σ2 H2 ⟨rfl, hn, p⟩
  by_cases lt : n < z.cps.size
  · refine .inr ⟨lt, Pv (n + 1), fun σ3 H3 q => ⟨z.cps.size - (n + 1), by omega, rfl, lt, q⟩, ?_⟩
    rintro x H3 ⟨T, c, rfl, hT, hc, rfl⟩
    exact ⟨T, _, rfl, SqT.of upd_same, rfl, _, _, rfl, _, _, rfl, rfl, hs n c σ2 H2 _ hc p (Evl.Ex.new hT)⟩
  · have e : n = z.cps.size := by omega
    subst e
    exact .inl ⟨Nat.le_refl _, hd σ2 H2 p⟩
end Lr

namespace Lr
open PySem L2
def kindD : PyData → String
  | .none => "NoneType"
  | .bool _ => "bool"
  | .int _ => "int"
  | .str _ => "str"
  | .list _ => "list"
  | .tuple _ => "tuple"
  | .dict _ => "dict"
theorem ty_of {K : PySem.W.Frag} {H : Hp} {v : V} {d : PyData} (h : Dv H v d) : TyX K H v (.type (kindD d)) := by
  cases h with
  | non => exact .base .non
  | bl b => exact .base (.bl b)
  | int i => exact .base (.int i)
  | str x => exact .base (.str x)
  | lst h t => exact .base (.lst h)
  | tup h t => exact .base (.tup h)
  | tuf h t => exact .fTuple h
  | dic h t => exact .base (.dK h)
/-- what isinstance(d, T) answers -/
def isiD (T : String) (d : PyData) : Bool := kindD d == T || (T == "int" && kindD d == "bool")
theorem kit_all : ∀ a ∈ ["NoneType", "bool", "int", "str", "list", "tuple", "dict"], ∀ T ∈ ["str", "int", "bool", "tuple", "list", "dict"], kitB a T = some (a == T || (T == "int" && a == "bool")) := by
  decide +kernel
theorem kind_in (d : PyData) : kindD d ∈ ["NoneType", "bool", "int", "str", "list", "tuple", "dict"] := by
  cases d <;> simp [kindD]
theorem kit_D {K : PySem.W.Frag} (T : String) (d : PyData) (hT : T ∈ ["str", "int", "bool", "tuple", "list", "dict"] := by decide) : PySem.W.kitOne K (.type (kindD d)) (.type T) = some (isiD T d) := kit_ty (kit_all _ (kind_in d) T hT)
theorem isi_at {K : PySem.W.Frag} {H : Hp} {v : V} {d : PyData} {Q : VK} (T : String) (hT : T ∈ ["str", "int", "bool", "tuple", "list", "dict"]) (h : Dv H v d) (q : Q (.bl (isiD T d)) H) : rIsi K [v, .ty T] H Q :=
  ⟨v, .ty T, _, _, _, rfl, .ty T, ty_of h, kit_ty (kit_all _ (kind_in d) T hT), q⟩
end Lr

namespace Lr
open PySem L2 PySem.Spec PyProof.Rows
/-! ### for i, x in enumerate(a tuple) -/
theorem meets_enum1 {v : Value} {o : Obj} {Hh : Heap → Prop} (B : Begins v o Hh) :
    Meets (Builtin.«enumerate.__new__» ⟨[.type "enumerate", v], []⟩) (fun _ R s => Hh s.heap ∧
      R (.ok (.ret (.ref (s.heap.push o).objs.size)))
        { s with heap := (s.heap.push o).push { cls := .type "enumerate", data := .fields #[.none, .bool false, .ref s.heap.objs.size, rawInt 0, .none, .none] } }) :=
  .of_wp fun prog w A R s hh => by
    obtain ⟨hp, gs, dr, tk, os⟩ := s
    obtain ⟨h1, hR⟩ := hh
    have hsub := sub_enumerate
    have begin1 : ∀ {A2 : Around} {E : Value → Shared → Prop} {Q : Value → Shared → Prop}, Q (.ref hp.objs.size) ⟨hp.push o, gs, dr, tk, os⟩ → wpAny (model prog w) A2 (pyIter v) Q E ⟨hp, gs, dr, tk, os⟩ :=
      fun q => B.iter prog w _ _ ⟨hp, gs, dr, tk, os⟩ _ h1 q
    wp_walk using begin1
    refine wpAny_stack_any fun st => wpAny_pure ?_
    split
    · rename_i cc _ _ _ _ _
      cases (cc == Value.type "enumerate")
      all_goals
        wp_walk using begin1
        exact ⟨_, rfl, hR⟩
    · wp_walk using begin1
      exact ⟨_, rfl, hR⟩
section
variable {prog : Program} {w : World} {A : Around} {E : Value → Shared → Prop} {s : Shared}
theorem call_enum1 {v : Value} {o : Obj} {Hh : Heap → Prop} {Q : Value → Shared → Prop} (B : Begins v o Hh) (h1 : Hh s.heap)
    (k : ∀ h2, IsEnum h2 (s.heap.objs.size + 1) s.heap.objs.size 0 .none → h2.get? s.heap.objs.size = some o → (∀ b ob, s.heap.get? b = some ob → h2.get? b = some ob) → Q (.ref (s.heap.objs.size + 1)) { s with heap := h2 }) :
    wpAny (model prog w) A (call (.type "enumerate") [v]) Q E s := by
  refine callType_new F.called_enumerate (by decide) (F.typeCall_enumerate_1 _) (F.newCall_enumerate_1 _) (fun obj => F.args_object_init_2 obj _) F.entry_enumerate_new (meets_enum1 B) ⟨h1, ?_⟩
  have sz : (s.heap.push o).objs.size = s.heap.objs.size + 1 := Heap.size_push ..
  show _ ∧ _
  rw [sz]
  have en : IsEnum ((s.heap.push o).push { cls := .type "enumerate", data := .fields #[.none, .bool false, .ref s.heap.objs.size, rawInt 0, .none, .none] }) (s.heap.objs.size + 1) s.heap.objs.size 0 .none := by
    have q := Heap.get?_push_size (s.heap.push o) (o := { cls := .type "enumerate", data := .fields #[.none, .bool false, .ref s.heap.objs.size, rawInt 0, .none, .none] }) rfl
    rw [sz] at q
    exact q
  exact ⟨⟨_, en, rfl⟩, k _ en (Heap.get?_push_of_some _ (Heap.get?_push_size _ B.free)) fun b ob x => Heap.get?_push_of_some _ (Heap.get?_push_of_some _ x)⟩
end
def ItT (a : Addr) (xs : List V) : It :=
  ⟨fun i H => Tu H a xs ∧ i < xs.length, fun i H v G => ∃ T x, v = .ref T ∧ H T = none ∧ xs[i]? = some x ∧ G = upd H T (.tup [.int (i : Nat), x]), fun i H => Tu H a xs ∧ xs.length ≤ i⟩
theorem turn_enumT {P : Program} {w : World} {K : PySem.W.Frag} {elts : List Expr} {kk : Nat} {tpos : Pos} (a : Addr) (xs : List V) (e it : Addr) :
    Turn P w K (.Tuple elts kk tpos) (ItT a xs) [e, it] e (fun i h => (∃ old, IsEnum h e it ((i : Nat) : Int) old) ∧ h.IsTupleIter it a i ∧ e ≠ it ∧ i ≤ xs.length) where
  mem := by simp
  obj := by
    rintro i h ⟨⟨old, he⟩, ⟨o, ho, hc, hd⟩, _⟩ b hb
    rcases (show b = e ∨ b = it by simpa using hb) with q | q
    · subst q
      exact ⟨_, he, fun v q => nomatch q⟩
    · subst q
      exact ⟨o, ho, fun v q => by rw [hd] at q; cases q⟩
  keep := by
    rintro i h h2 ⟨⟨old, he⟩, ⟨o, ho, r⟩, hne⟩ k
    exact ⟨⟨old, k e (by simp) _ he⟩, ⟨o, k it (by simp) _ ho, r⟩, hne⟩
  item := by
    intro X hP hw hK hc i pins s σ H E I hf st hg
    subst hP hw hK
    obtain ⟨⟨old, he⟩, hit, hne, hle⟩ := st
    obtain ⟨hat, hlt⟩ := hg
    have eLt : e < s.heap.objs.size := Heap.lt_size he
    have iLt : it < s.heap.objs.size := by obtain ⟨_, q, _⟩ := hit; exact Heap.lt_size q
    obtain ⟨its, rv, ⟨o, ho, hcls, n, hdat⟩, _⟩ := I.tuple (Tu.sq hat)
    have nai : a ≠ it := by
      intro z
      have q := (hf it (by simp)).1
      obtain ⟨oo, qq, _⟩ := hat.some
      rw [← z, qq] at q
      cases q
    have hlen : its.length = xs.length := rv.length.symm
    have D := Draws.tuple (prog := X.prog) (w := X.w) (A := X.A.in1) (I.ok.hd hc) it a nai its.toArray
    have nea : e ≠ a := by
      intro z
      have q := (hf e (by simp)).1
      obtain ⟨oo, qq, _⟩ := hat.some
      rw [z, qq] at q
      cases q
    refine wpAny_pyNext_enum_itemD D he ⟨hit, o, ho, hcls, n, hdat⟩ (by simpa [hlen] using hlt) hne (by simp [hne, nea]) fun y h2 t2 hy out hit2 hT hsz hk => ?_
    obtain ⟨x, hx⟩ : ∃ x, xs[i]? = some x := ⟨xs[i], List.getElem?_eq_getElem hlt⟩
    obtain ⟨u, hu, ru⟩ := rv.get hx
    have hyu : y = u := by
      have h3 : its[i]? = some y := by simpa using hy
      rw [hu] at h3
      exact (Option.some.inj h3).symm
    subst hyu
    refine ⟨_, rfl, wpAny_letOwnedTupleGo_enum (s := { s with heap := h2, toks := t2 + 1 }) out fun h3 he3 sb => ?_⟩
    have hT3 : h3.get? s.heap.objs.size = some { cls := .type "tuple", data := .seq #[.int i t2, y] } := (sb.2 _ (Nat.ne_of_gt eLt)).trans hT
    have new : ObjOk X.prog X.w (upd H s.heap.objs.size (.tup [.int (i : Nat), x])) h3 s.heap.objs.size (.tup [.int (i : Nat), x]) :=
      ⟨(by show 2 ≤ sizeLine; decide), [.int i t2, y], .cons ⟨_, rfl⟩ (.cons ru .nil), ⟨_, hT3, rfl, _, rfl⟩⟩
    have kept : ∀ b ob, b ∉ [e, it] → s.heap.get? b = some ob → h3.get? b = some ob := fun b ob hb q =>
      (sb.2 b (fun y => hb (by simp [y]))).trans (hk b ob (fun y => hb (by simp [y])) (fun y => hb (by simp [y])) q)
    have I3 : Inv X pins σ (upd H s.heap.objs.size (.tup [.int (i : Nat), x])) { s with heap := h3, toks := t2 + 1 } := I.turnedNew (ch := [e, it]) kept hf (Nat.le_refl _) new
    refine ⟨.ref s.heap.objs.size, _, I3, rfl, ⟨_, x, rfl, I.hok.fresh (Nat.le_refl _), hx, rfl⟩, ⟨⟨y, ?_⟩, ?_, hne, hlt⟩, fun b hb => ?_⟩
    · have e1 : ((i + 1 : Nat) : Int) = (i : Int) + 1 := by omega
      rw [e1]
      exact he3
    · obtain ⟨⟨o2, ho2, r2⟩, _⟩ := hit2
      exact ⟨o2, (sb.2 it (Ne.symm hne)).trans ho2, r2⟩
    · have lt : b < s.heap.objs.size := by
        rcases (show b = e ∨ b = it by simpa using hb) with q | q <;> (rw [q]; assumption)
      rw [upd_ne (Nat.ne_of_lt lt)]
      exact (hf b hb).1
  done := by
    intro X hP hw hK hc i pins s σ H E I hf st hg
    subst hP hw hK
    obtain ⟨⟨old, he⟩, hit, hne, hle⟩ := st
    obtain ⟨hat, hge⟩ := hg
    have ei : i = xs.length := Nat.le_antisymm hle hge
    obtain ⟨its, rv, ⟨o, ho, hcls, n, hdat⟩, _⟩ := I.tuple (Tu.sq hat)
    have nai : a ≠ it := by
      intro z
      have q := (hf it (by simp)).1
      obtain ⟨oo, qq, _⟩ := hat.some
      rw [← z, qq] at q
      cases q
    have hlen : its.length = xs.length := rv.length.symm
    have D := Draws.tuple (prog := X.prog) (w := X.w) (A := X.A.in1) (I.ok.hd hc) it a nai its.toArray
    obtain ⟨f0, f1, f2, f3, f4, f5⟩ := hf it (by simp)
    have e2 : its.toArray.size = i := by simp [hlen, ei]
    exact wpAny_pyNext_enum_endD D he (by rw [e2]; exact ⟨hit, o, ho, hcls, n, hdat⟩) fun h2 eb => ⟨rfl, I.turned (t' := s.toks) (fun b o hb q => eb b o hb q) f0 f1 f3 f4 f5⟩
  self := by
    rintro A i s Q E ⟨⟨_, he⟩, _⟩ h
    exact wpAny_pyIter_enum he h
def iEnumT (ta : TA) : TI := fun σ H R => ta σ H fun vs G => ∃ a xs, vs = [.ref a] ∧ Tu G a xs ∧ R (ItT a xs) G
theorem pi_enumT {X : Cx} {e : Expr} {ta : TA} {p pos tpos : Pos} {elts : List Expr} {kk : Nat} (hg : Gl X "enumerate") (hm : X.mg "enumerate" = none) (ha : PA X [e] ta)
    (hs : starEach [e] X.env = [(false, eval e X.env)] := by rfl) : PI X (.Tuple elts kk tpos) (.Call (.Name "enumerate" p) [e] [] pos) (iEnumT ta) := by
  refine ⟨fun pins s σ H R I h => ?_⟩
  refine Call_ (ld_blt I hg hm boot_enumerate (PyProof.Rows.callWith_type1 (thn (ha.run pos pins s σ H _ I h) ?_) hs rfl))
  rintro us s1 ⟨vs, G, I1, r1, a, xs, rfl, hat, q⟩
  cases r1 with
  | cons r rr =>
    cases rr
    cases r
    obtain ⟨its, rv, ⟨o, ho, hcls, n, hdat⟩, _⟩ := I1.tuple (Tu.sq hat)
    refine call_enum1 (begins_tuple a its.toArray) ⟨o, ho, hcls, n, hdat⟩ fun h2 he hit hk => wpAny_pyIter_enum he ?_
    have I2 : Inv X pins σ G { s1 with heap := h2 } := I1.kept (t' := s1.toks) hk
    refine ⟨s1.heap.objs.size + 1, [s1.heap.objs.size + 1, s1.heap.objs.size], _, _, G, rfl, I2, turn_enumT a xs (s1.heap.objs.size + 1) s1.heap.objs.size, ⟨⟨.none, he⟩, ⟨_, hit, rfl, rfl⟩, Nat.succ_ne_self _, Nat.zero_le _⟩, fun b hb => ?_, q⟩
    have le : s1.heap.objs.size ≤ b := by
      rcases (show b = s1.heap.objs.size + 1 ∨ b = s1.heap.objs.size by simpa using hb) with y | y
      · rw [y]; exact Nat.le_succ _
      · rw [y]; exact Nat.le_refl _
    exact I1.fpOk le (I1.hok.fresh le)
/-- the loop: an invariant over the turn's number; the pair is new -/
theorem for_enumT {K : PySem.W.Frag} {a : Addr} {xs : List V} {i j : Nat} {tb : TS} {D : Ends} {σ : L2.St} {H : Hp} (Pv : Nat → L2.St → Hp → Prop) (h0 : Pv 0 σ H) (ht : ∀ n σ2 H2, Pv n σ2 H2 → Tu H2 a xs)
    (hs : ∀ n x σ2 H2 H3, xs[n]? = some x → Pv n σ2 H2 → Ex H2 H3 → tb { D with nx := Pv (n + 1), ct := Pv (n + 1), bk := D.nx } ((σ2.set i (some (.int (n : Int)))).set j (some x)) H3)
    (hd : ∀ σ2 H2, Pv xs.length σ2 H2 → D.nx σ2 H2) :
    ∃ W : Nat → Nat → L2.St → Hp → Prop, (∃ m, W 0 m σ H) ∧ ∀ n m σ2 H2, W n m σ2 H2 →
      ((ItT a xs).stop n H2 ∧ D.nx σ2 H2) ∨ ((ItT a xs).go n H2 ∧ ∃ N : L2.St → Hp → Prop, (∀ σ3 H3, N σ3 H3 → ∃ m2, m2 < m ∧ W (n + 1) m2 σ3 H3) ∧
        ∀ x H3, (ItT a xs).yld n H2 x H3 → gTup K 2 (gCons (gName i) (gCons (gName j) gNil)) x σ2 H3 fun σ4 H4 => tb { D with nx := N, ct := N, bk := D.nx } σ4 H4) := by
  refine ⟨fun n m σ2 H2 => m = xs.length - n ∧ n ≤ xs.length ∧ Pv n σ2 H2, ⟨_, rfl, Nat.zero_le _, h0⟩, ?_⟩
  rintro n m σ2 H2 ⟨rfl, hn, p⟩
  by_cases lt : n < xs.length
  · refine .inr ⟨⟨ht n σ2 H2 p, lt⟩, Pv (n + 1), fun σ3 H3 q => ⟨xs.length - (n + 1), by omega, rfl, lt, q⟩, ?_⟩
    rintro y H3 ⟨T, x, rfl, hT, hx, rfl⟩
    exact ⟨T, _, rfl, SqT.of upd_same, rfl, _, _, rfl, _, _, rfl, rfl, hs n x σ2 H2 _ hx p (Evl.Ex.new hT)⟩
  · have e : n = xs.length := by omega
    subst e
    exact .inl ⟨⟨ht _ σ2 H2 p, Nat.le_refl _⟩, hd σ2 H2 p⟩
/-! ### len(set(a tuple of ints)) -/
theorem perm_in : ∀ {ks ns : List Int}, ks.Nodup → (∀ k ∈ ks, k ∈ ns) → ns.length ≤ ks.length → ks.Perm ns
  | [], ns, _, _, hl => by
    have : ns = [] := List.eq_nil_of_length_eq_zero (by simpa using hl)
    subst this
    exact .nil
  | k :: r, ns, nd, sub, hl => by
    rw [List.nodup_cons] at nd
    have hk : k ∈ ns := sub k (by simp)
    have p := List.perm_cons_erase hk
    have hlen : ns.length = (ns.erase k).length + 1 := by
      have := p.length_eq
      simpa using this
    have ih := perm_in (ks := r) (ns := ns.erase k) nd.2 (fun x hx => by
      have hne : x ≠ k := fun z => nd.1 (z ▸ hx)
      exact (List.mem_erase_of_ne hne).mpr (sub x (by simp [hx]))) (by simp at hl; omega)
    exact (ih.cons k).trans p.symm
theorem card_nodup {ks ns : List Int} (nd : ks.Nodup) (h : ∀ k, k ∈ ns ↔ k ∈ ks) : ks.length = ns.length ↔ ns.Nodup := by
  constructor
  · intro e
    exact (perm_in nd (fun k hk => (h k).mpr hk) (by omega)).nodup_iff.mp nd
  · intro nd2
    have p := perm_in (ks := ks) (ns := ns) nd (fun k hk => (h k).mpr hk)
    by_cases hl : ns.length ≤ ks.length
    · exact (p hl).length_eq
    · exact ((perm_in (ks := ns) (ns := ks) nd2 (fun k hk => (h k).mp hk) (by omega)).length_eq).symm
def tLenSetT (K : PySem.W.Frag) (ta : TE) : TE := fun σ H Q => ta σ H fun x H1 => ∃ (l : Addr) (ns : List Int), x = .ref l ∧ SqT K H1 l (ns.map V.int) ∧ ns.length ≤ 4000 ∧ ∀ m : Nat, (m = ns.length ↔ ns.Nodup) → Q (.int m) H1
theorem pe_lenSetT {X : Cx} {K : PySem.W.Frag} {a : Expr} {ta : TE} {p p2 q pos : Pos} (hK : X.K = K) (hg : Gl X "len") (hm : X.mg "len" = none) (hg2 : Gl X "set") (hm2 : X.mg "set" = none) (ha : PE X a ta) (hc : X.calm = true := by rfl)
    (na : starEach [a] X.env = (false, eval a X.env) :: starEach [] X.env := by rfl) : PE X (.Call (.Name "len" p) [.Call (.Name "set" p2) [a] [] q] [] pos) (tLenSetT K ta) := by
  subst hK
  refine ⟨fun pins s σ H Q I h => Call_ (ld_blt I hg hm bt_len ?_)⟩
  refine PyProof.Rows.callWith_builtin1 (PyProof.Rows.args_cons ?_ rfl) rfl rfl
  refine Call_ (ld_blt I hg2 hm2 bt_set ?_)
  refine PyProof.Rows.callWith_type1 (PyProof.Rows.args_cons (thn (ha.run pins s σ H _ I h) ?_) na) na rfl
  rintro v s1 ⟨x, H1, I1, r1, l, ns, rfl, hq, hl, k⟩
  refine PyProof.Rows.args_nil ?_
  cases r1
  obtain ⟨its, rv, ⟨o, ho, hcls, n, hdat⟩, hz⟩ := I1.tuple hq
  refine call_set_tupI ns (I1.ok.hd hc) ⟨o, ho, hcls, n, hdat⟩ (by simpa using rv.ints) (by unfold scanBound; omega) ?_
  rintro h2 tk c ⟨o2, es, ep, t, ho2, hex, hd2, _, nd, mem, _, hf, hn, _⟩ hcn hk
  refine PyProof.Rows.args_nil ?_
  have I2 : Inv X pins σ H1 { s1 with heap := h2, toks := tk } := I1.kept hk
  have e1 : (es.toList.map keyOf).length = c := by rw [List.length_map, Array.length_toList]; exact hn
  have card : c = ns.length ↔ ns.Nodup := by
    rw [← e1]
    exact card_nodup nd fun k => by rw [← mem k]; simp
  refine call_len_set ho2 hex hd2 hf (by rw [hn]; omega) ⟨.int c, H1, I2.tok _, ⟨_, by rw [hn]⟩, k c card⟩
/-! ### sorted(a tuple of ints) -/
def rSortT (K : PySem.W.Frag) : List V → Hp → VK → Prop := fun vs H Q => ∃ (a : Addr) (ns : List Int), vs = [.ref a] ∧ SqT K H a (ns.map V.int) ∧ ns.length < 64 ∧ ∀ (ys : List Int) (p : Addr), ys.Perm ns → ys.Pairwise (· ≤ ·) → H p = none → Q (.ref p) (upd H p (.lst (ys.map V.int)))
theorem cr_sortT {X : Cx} {K : PySem.W.Frag} (hK : X.K = K) : CallR X (.builtin "sorted") (rSortT K) := by
  subst hK
  intro pins s σ H xs us Q I r h
  obtain ⟨a, ns, rfl, hs, h64, k⟩ := h
  obtain ⟨u, rfl, rx⟩ := vals1 r
  cases rx
  obtain ⟨its, rv, ⟨o, ho, hcls, n, hdat⟩, hz⟩ := I.tuple hs
  have hi : IntsAre its ns := rv.ints
  have hil : its.length = ns.length := hi.length
  refine Calls.call_function_entry PyProof.Rows.kind_sorted PyProof.Rows.plain_sorted PyProof.Rows.entry_sorted (PyProof.Rows.args_sorted1 _) ?_
  unfold Builtin.«sorted»
  refine wpAny_bind (m := checkCount "sorted" 1 1 _) (wpAny_pure ?_)
  have szi : its.toArray.size ≤ sizeLine := by rw [List.size_toArray, hil]; exact Evl.sz_of (by omega)
  refine wpAny_bind (wpAny_collect_seq (A := X.A.in1) a (.inr rfl) ho hcls hdat (fun h2 hk => ?_) szi)
  have I1 : Inv X pins σ H { s with heap := h2 } := I.kept (t' := s.toks) hk
  refine wpAny_bind (wpAny_newList ?_ (by rw [List.toList_toArray, hil]; exact Evl.sz_of (by omega)))
  rw [List.toList_toArray]
  have hoL : (h2.push (seqObj "list" its.toArray 0)).get? h2.objs.size = some (seqObj "list" its.toArray 0) := Heap.get?_push_size _ rfl
  show wpAny _ _ _ _ _ { s with heap := h2.push (seqObj "list" its.toArray 0) }
  refine wpAny_bind (wpAny_holding (wpAny_call_entry PyProof.Rows.slot_list_sort ⟨_, hoL, rfl⟩ PyProof.Rows.entry_list_sort
    (PyProof.Rows.list_sort_tree (s := { s with heap := h2.push (seqObj "list" its.toArray 0) }) hoL hi (by rw [hil]; exact h64) fun out ys g1 g2 g3 => ⟨_, rfl, ?_⟩) (PyProof.Rows.args_list_sort _)))
  obtain ⟨e2, he2⟩ := PyProof.Rows.sortedHeap_at (vs := its) (out := out) hoL
  have hlen : (ys.map V.int).length ≤ sizeLine := by
    rw [List.length_map, g2.length_eq]
    exact Evl.sz_of (by omega)
  refine wpAny_pure ⟨_, rfl, .ref h2.objs.size, upd H h2.objs.size (.lst (ys.map V.int)), I1.laid (t' := s.toks) (fun b u e => ?_) (Nat.le_refl _)
    (show ObjOk X.prog X.w _ _ _ (.lst (ys.map V.int)) from ⟨hlen, out.toList, e2, vals_of_ints g1, by rw [Array.toArray_toList]; exact he2⟩), rfl, k ys _ g2 g3 (I1.hok.fresh (Nat.le_refl _))⟩
  have lt : b < h2.objs.size := Heap.lt_size e
  rw [PyProof.Rows.sortedHeap_old (Nat.ne_of_lt lt) (by rw [size_push']; exact Nat.lt_succ_of_lt lt)]
  exact Heap.get?_push_of_some _ e
/-! ### all(a list of truths) -/
def rAllL (K : PySem.W.Frag) : List V → Hp → VK → Prop := fun vs H Q => ∃ (a : Addr) (bs : List Bool), vs = [V.ref a] ∧ SqL K H a (bs.map V.bl) ∧ Q (.bl (bs.all id)) H
theorem k_all {X : Cx} {K : PySem.W.Frag} (hK : X.K = K) (hc : X.calm = true) : CallR X (.builtin "all") (rAllL K) := by
  subst hK
  exact cr_all hc
/-! ### a tuple backwards: some tuple of its items -/
theorem vals_pick {xs : List V} {its : List Value} (r : Vals xs its) (f : Nat → Nat) : ∀ l : List Nat, Vals (l.filterMap fun k => xs[f k]?) (l.filterMap fun k => its[f k]?)
  | [] => .nil
  | k :: l => by
    have rest := vals_pick r f l
    cases e : xs[f k]? with
    | none =>
      have e2 := r.none_of e
      simp only [List.filterMap_cons, e, e2]
      exact rest
    | some x =>
      obtain ⟨u, e2, ru⟩ := r.get e
      simp only [List.filterMap_cons, e, e2]
      exact .cons ru rest
section
variable {prog : Program} {w : World} {A : Around} {E : Value → Shared → Prop} {s : Shared}
theorem back_applied {sl : Addr} {vl vu vs : Value} {n : Nat} {Q : Int × Int × Nat → Shared → Prop} (hs : s.heap.IsSliceOf sl vl vu vs) (pl : IsPart vl none) (pu : IsPart vu none) (ps : IsPart vs (some (-1)))
    (h : ∀ lo k, k ≤ n → Q (lo, -1, k) s) : wpAny (model prog w) A (Builtin.Slice.sliceApplied (.ref sl) (pure (n : Int))) Q E s := by
  obtain ⟨os, hos, hcs, hds⟩ := id hs
  unfold Builtin.Slice.sliceApplied Builtin.Slice.sliceFields
  refine wpAny_bind (wpAny_bind (wpAny_field hos hds (x := vl) rfl (wpAny_bind (wpAny_field hos hds (x := vu) rfl (wpAny_bind (wpAny_field hos hds (x := vs) rfl (wpAny_pure ?_)))))))
  refine wpAny_bind (HT.slicePart_ ps ?_)
  show wpAny _ _ (if ((-1 : Int) == 0) = true then _ else _) _ _ s
  rw [if_neg (by decide)]
  refine wpAny_bind (HT.slicePart_ pl (wpAny_bind (HT.slicePart_ pu (wpAny_bind (wpAny_pure ?_)))))
  show wpAny _ _ (match Builtin.Slice.sliceAdjust none none (-1) (n : Int) with | (lo, hi) => pure (lo, (-1 : Int), Builtin.Slice.slicePlaces lo hi (-1))) _ _ s
  have e1 : Builtin.Slice.sliceAdjust none none (-1) (n : Int) = ((n : Int) - 1, -1) := rfl
  rw [e1]
  refine wpAny_pure (h _ _ ?_)
  unfold Builtin.Slice.slicePlaces
  rw [if_neg (by decide)]
  split
  · have e2 : ((n : Int) - 1 - -1 - 1) / (- -1) = (n : Int) - 1 := by
      rw [show (- -1 : Int) = 1 by decide, Int.ediv_one]
      omega
    rw [e2]
    omega
  · simp
theorem getItem_back {t sl : Addr} {items : Array Value} {vl vu vs : Value} {Q : Value → Shared → Prop} (ht : IsTup s.heap t items) (hs : s.heap.IsSliceOf sl vl vu vs) (pl : IsPart vl none) (pu : IsPart vu none) (ps : IsPart vs (some (-1))) (hsz : items.size ≤ sizeLine)
    (h : ∀ (lo : Int) (k : Nat), k ≤ items.size → Q (.ref s.heap.objs.size) { s with heap := s.heap.push { cls := .type "tuple", data := .seq ((List.range k).filterMap fun (j : Nat) => items[(lo + (j : Int) * -1).toNat]?).toArray } }) :
    wpAny (model prog w) A (getItem (.ref t) (.ref sl)) Q E s := by
  obtain ⟨os, hos, hcs, hds⟩ := id hs
  have hTs : s.TypeIs (.ref sl) "slice" := ⟨os, hos, hcs⟩
  unfold getItem
  try with_reducible refine wpAny_holding ?_
  first | refine wpAny_bind (wpAny_pure ?_) | skip
  refine wpAny_bind (wpAny_sequenceKey ht.typeIs (by decide) ?_)
  refine wpAny_bind (wpAny_callSpecial?_slot (name := Str.ofString "__getitem__") ht.typeIs PyProof.Rows.slot_tuple_getitem
    (wpAny_call_entry PyProof.Rows.slot_tuple_getitem ht.typeIs entry_tuple_getitem ?_ (args_tuple_getitem _ _)))
  show wpAny _ _ (Builtin.Tuple.tupleItemsOf (.ref t) >>= _) _ _ s
  refine wpAny_bind (tupleItemsOf_ ht (wpAny_bind (wpAny_typeOf hTs ?_)))
  rw [if_pos (by decide)]
  refine wpAny_bind (back_applied hs pl pu ps fun lo k hk => ?_)
  have ok : sizeOk (.seq ((List.range k).filterMap fun (j : Nat) => items[(lo + (j : Int) * -1).toNat]?).toArray) := by
    show ((List.range k).filterMap fun (j : Nat) => items[(lo + (j : Int) * -1).toNat]?).toArray.size ≤ sizeLine
    rw [List.size_toArray]
    have := List.length_filterMap_le (fun (j : Nat) => items[(lo + (j : Int) * -1).toNat]?) (List.range k)
    rw [List.length_range] at this
    omega
  have no : ¬ ((lo == 0 && (-1 : Int) == 1 && k == items.size) = true) := by simp
  show wpAny _ _ (if (lo == 0 && (-1 : Int) == 1 && k == items.size) = true then _ else _) _ _ s
  rw [if_neg no]
  have q := h lo k hk
  first
    | exact wpAny_bind (m := Builtin.Tuple.tupleExact _) (wpAny_newObj_type (wpAny_pure ⟨_, rfl, wpAny_pure q⟩) ok)
    | exact wpAny_bind (m := Builtin.Tuple.tupleExact _) (wpAny_newObj_type (wpAny_bind (wpAny_pure (wpAny_pure ⟨_, rfl, wpAny_pure q⟩))) ok)
    | exact wpAny_bind (wpAny_bind (m := Builtin.Tuple.tupleExact _) (wpAny_newObj_type (wpAny_pure (wpAny_pure ⟨_, rfl, wpAny_pure q⟩)) ok))
    | exact wpAny_bind (wpAny_bind (m := Builtin.Tuple.tupleExact _) (wpAny_newObj_type (wpAny_pure ⟨_, rfl, wpAny_pure q⟩) ok))
end
def tRevT (te : TE) : TE := fun σ H Q => te σ H fun x H1 => ∃ (a : Addr) (xs : List V), x = .ref a ∧ Tu H1 a xs ∧ ∀ (f : Nat → Nat) (k : Nat) p, k ≤ xs.length → H1 p = none → Q (.ref p) (upd H1 p (.tup ((List.range k).filterMap fun j => xs[f j]?)))
theorem pe_revT {X : Cx} {e : Expr} {te : TE} {k : Nat} {p1 p2 p3 pos : Pos} (he : PE X e te) : PE X (.Subscript e (.Slice none none (some (.UnaryOp .USub (.Constant (.int 1) k p1) p2)) p3) pos) (tRevT te) := by
  refine ⟨fun pins s σ H Q I h => Subscript_ (thn (he.run pins s σ H _ I h) ?_)⟩
  rintro v s1 ⟨x, H1, I1, r1, a, xs, rfl, hx, q⟩
  cases r1
  have step : PO X (some (.UnaryOp .USub (.Constant (.int 1) k p1) p2)) (tPart (tUn (rU fun i => .int (-i)) (tC (.int 1)))) := po_some (pe_un un_neg pe_int)
  refine wpAny_Slice (thn (po_none.run pins s1 σ H1 (fun o G => o = none ∧ G = H1) I1 ⟨rfl, rfl⟩) ?_)
  rintro vl s2 ⟨l, H2, I2, pl, rfl, rfl⟩
  refine thn (po_none.run pins s2 σ H2 (fun o G => o = none ∧ G = H2) I2 ⟨rfl, rfl⟩) ?_
  rintro vu s3 ⟨u, H3, I3, pu, rfl, rfl⟩
  refine thn (step.run pins s3 σ H3 (fun o G => o = some (-1) ∧ G = H3) I3 ⟨1, rfl, -1, rfl, rfl, rfl⟩) ?_
  rintro vs s4 ⟨o, H4, I4, ps, rfl, rfl⟩
  have I5 : Inv X pins σ H4 { s4 with heap := s4.heap.push { cls := .type "slice", data := .fields #[vl, vu, vs] } } := I4.kept (t' := s4.toks) fun b ob q => Heap.get?_push_of_some _ q
  obtain ⟨its, rv, ht, hz⟩ := I5.tuple (Tu.sq hx)
  have hlen : its.length = xs.length := rv.length.symm
  refine tail_any (ops := [.ref a, .ref s4.heap.objs.size]) ht.typeIs (PyProof.Rows.slot_tuple_getitem.lookup) ?_ (by with_unfolding_all rfl)
  refine getItem_back ht (Heap.IsSliceOf.new _ vl vu vs) pl pu ps (by rw [List.size_toArray, hlen]; exact hz) fun lo n hn => ?_
  have hn2 : n ≤ xs.length := by rw [List.size_toArray, hlen] at hn; exact hn
  have same : ((List.range n).filterMap fun (j : Nat) => its.toArray[(lo + (j : Int) * -1).toNat]?) = (List.range n).filterMap fun (j : Nat) => its[(lo + (j : Int) * -1).toNat]? := by
    congr 1
    funext j
    simp
  rw [same]
  have rv2 := vals_pick rv (fun j => (lo + (j : Int) * -1).toNat) (List.range n)
  have l2 : ((List.range n).filterMap fun (j : Nat) => xs[(lo + (j : Int) * -1).toNat]?).length ≤ sizeLine := by
    have := List.length_filterMap_le (fun (j : Nat) => xs[(lo + (j : Int) * -1).toNat]?) (List.range n)
    rw [List.length_range] at this
    omega
  exact ⟨.ref _, _, I5.laid (t' := s4.toks) (o := .tup ((List.range n).filterMap fun (j : Nat) => xs[(lo + (j : Int) * -1).toNat]?)) (fun b ob q => Heap.get?_push_of_some _ q) (Nat.le_refl _) ⟨l2, _, rv2, IsTup.new _ _⟩, rfl, q _ n _ hn2 (I5.hok.fresh (Nat.le_refl _))⟩
end Lr

namespace Lr
open PySem L2 PySem.SeqAt
/-! ### compared with [] or (), whatever the items are -/
def rNeNil (K : PySem.W.Frag) : R2 := fun x y H Q => ∃ a b xs, x = .ref a ∧ y = .ref b ∧ SqL K H a xs ∧ SqL K H b [] ∧ Q (.bl (decide (xs ≠ []))) H
def rEqNilT (K : PySem.W.Frag) : R2 := fun x y H Q => ∃ a b xs, x = .ref a ∧ y = .ref b ∧ SqT K H a xs ∧ SqT K H b [] ∧ Q (.bl (decide (xs = []))) H
theorem ko_neNil {X : Cx} {K : PySem.W.Frag} (h : X.K = K) (hu : X.A.units + 64 < cLine) : OpR X (compareOp .NotEq) (rNeNil K) := by
  subst h
  intro pins s σ H x y v u Q I rx ry h
  obtain ⟨a, b, xs, rfl, rfl, h1, h2, q⟩ := h
  cases rx
  cases ry
  obtain ⟨its, rv, ⟨o, n, ho, hc, _, hd⟩, _⟩ := I.list h1
  obtain ⟨its2, rv2, ⟨o2, n2, ho2, hc2, _, hd2⟩, _⟩ := I.list h2
  cases rv2
  have i1 : s.heap.IsList a its.toArray := ⟨o, ho, hc, n, hd⟩
  have i2 : s.heap.IsList b #[] := ⟨o2, ho2, hc2, n2, hd2⟩
  cases rv with
  | nil =>
    exact RcNeAt.lists (e := fun _ => true) i1 i2 rfl (by omega) (fun j h1 _ => absurd h1 (Nat.not_lt_zero j)) X.prog X.w _ _ ⟨.bl _, H, I, rfl, q⟩
  | cons r rv =>
    exact RcNeAt.lists_lengths i1 i2 (by simp) (by omega) X.prog X.w _ _ ⟨.bl _, H, I, rfl, q⟩
theorem ko_eqNilT {X : Cx} {K : PySem.W.Frag} (h : X.K = K) (hu : X.A.units + 64 < cLine) : OpR X (compareOp .Eq) (rEqNilT K) := by
  subst h
  intro pins s σ H x y v u Q I rx ry h
  obtain ⟨a, b, xs, rfl, rfl, h1, h2, q⟩ := h
  cases rx
  cases ry
  obtain ⟨its, rv, ⟨o, ho, hc, n, hd⟩, _⟩ := I.tuple h1
  obtain ⟨its2, rv2, ⟨o2, ho2, hc2, n2, hd2⟩, _⟩ := I.tuple h2
  cases rv2
  have i1 : s.heap.IsTuple a its.toArray := ⟨o, ho, hc, n, hd⟩
  have i2 : s.heap.IsTuple b #[] := ⟨o2, ho2, hc2, n2, hd2⟩
  have G := RcAt.tuples (A := X.A) (e := fun _ => true) i1 i2 (by omega) (fun j _ h2 => absurd h2 (Nat.not_lt_zero j))
  cases rv with
  | nil => exact G X.prog X.w _ _ ⟨.bl _, H, I, rfl, q⟩
  | cons r rv => exact G X.prog X.w _ _ ⟨.bl _, H, I, by simp; rfl, q⟩
end Lr

namespace Lr
open PySem L2 PySem.Spec PyProof.Rows
/-! ### repr of any data: where the table of modules stands in the base, nothing that is told of stands there -/
def HasSys (base : Heap) : Prop := ∃ o, base.get? sysModules = some o
section
variable {X : Cx} {pins : List (Addr × Obj)} {σ : L2.St} {H : Hp} {s : Shared}
theorem sys_ne (hs : HasSys X.base) (I : Inv X pins σ H s) {a : Addr} {o : HO} (h : H a = some o) : sysModules ≠ a := by
  rintro rfl
  obtain ⟨o', e⟩ := hs
  have z := (I.bs _ _ e).2
  rw [h] at z
  cases z
mutual
theorem Dv.readsS (hs : HasSys X.base) (I : Inv X pins σ H s) : ∀ {v : V} {d : PyData} {u : Value}, Dv H v d → RelV v u → ∃ as, Reads s.heap u d as ∧ sysModules ∉ as
  | _, _, _, .non, r => by cases r; exact ⟨[], .none, List.not_mem_nil⟩
  | _, _, _, .bl b, r => by cases r; exact ⟨[], .bool b, List.not_mem_nil⟩
  | _, _, _, .int i, r => by obtain ⟨t, rfl⟩ := r; exact ⟨[], .int i t, List.not_mem_nil⟩
  | _, _, _, .str x, r => by obtain ⟨t, rfl⟩ := r; exact ⟨[], .str x t, List.not_mem_nil⟩
  | _, _, _, .lst h t, r => by
    cases r
    have ne := sys_ne hs I h
    obtain ⟨_, its, n, rv, e⟩ := I.hok _ _ h
    obtain ⟨as, q, z⟩ := DvAll.readsS hs I t rv
    refine ⟨_ :: as, .list e rfl rfl (by simpa using q), fun hm => ?_⟩
    rcases List.mem_cons.mp hm with e | hm
    · exact ne e
    · exact z hm
  | _, _, _, .tup h t, r => by
    cases r
    obtain ⟨_, its, rv, o, e, hc, n, hd⟩ := I.hok _ _ h
    obtain ⟨as, q, z⟩ := DvAll.readsS hs I t rv
    exact ⟨as, .tuple e hc hd (by simpa using q), z⟩
  | _, _, _, .tuf h t, r => by
    cases r
    obtain ⟨_, _, its, rv, o, e, hc, n, hd⟩ := I.hok _ _ h
    obtain ⟨as, q, z⟩ := DvAll.readsS hs I t rv
    exact ⟨as, .tuple e hc hd (by simpa using q), z⟩
  | _, _, _, .dic h t, r => by
    cases r
    have ne := sys_ne hs I h
    obtain ⟨_, ns, vs, kv, o, es, ep, e, hx, hd, _, hp, _⟩ := I.hok _ _ h
    obtain ⟨bs, q, z⟩ := DvKv.readsS hs I t kv hp
    refine ⟨_ :: [] ++ bs, .dict e hx.1 hd (keys_read hp kv t) q, fun hm => ?_⟩
    rcases List.mem_cons.mp (by simpa using hm) with e | hm
    · exact ne e
    · exact z hm
theorem DvAll.readsS (hs : HasSys X.base) (I : Inv X pins σ H s) : ∀ {vs : List V} {ds : List PyData} {us : List Value}, DvAll H vs ds → Vals vs us → ∃ as, ReadsAll s.heap us ds as ∧ sysModules ∉ as
  | _, _, _, .nil, .nil => ⟨[], .nil, List.not_mem_nil⟩
  | _, _, _, .cons a b, .cons r q => by
    obtain ⟨as, h1, z1⟩ := Dv.readsS hs I a r
    obtain ⟨bs, h2, z2⟩ := DvAll.readsS hs I b q
    refine ⟨as ++ bs, .cons h1 h2, fun hm => ?_⟩
    rcases List.mem_append.mp hm with m | m
    · exact z1 m
    · exact z2 m
theorem DvKv.readsS (hs : HasSys X.base) (I : Inv X pins σ H s) : ∀ {kvs : List (Key × V)} {ds : List (PyData × PyData)} {vs : List (Key × Value)} {es : List DictEntry}, DvKv H kvs ds → KV kvs vs → Pairs (mixKind X.prog X.w) es vs →
    ∃ bs, ReadsAll s.heap (es.map (·.val)) (ds.map (·.2)) bs ∧ sysModules ∉ bs
  | _, _, _, _, .nil, .nil, .nil => ⟨[], .nil, List.not_mem_nil⟩
  | _, _, _, _, .cons a b, .cons r q, .cons h1 h2 t => by
    obtain ⟨as, g1, z1⟩ := Dv.readsS hs I a r.2
    obtain ⟨bs, g2, z2⟩ := DvKv.readsS hs I b q t
    refine ⟨as ++ bs, .cons (by show Reads s.heap (DictEntry.val _) _ as; rw [h2]; exact g1) g2, fun hm => ?_⟩
    rcases List.mem_append.mp hm with m | m
    · exact z1 m
    · exact z2 m
end
end
def rReprS : List V → Hp → VK → Prop := fun xs H Q => ∃ v d, xs = [v] ∧ Dv H v d ∧ Fit d ∧ Q (.str d.shown) H
theorem call_reprS {X : Cx} (hg : X.A.guards = some []) (hu : X.A.units + 64 < cLine) (hs : HasSys X.base) : CallR X (.builtin "repr") rReprS := by
  intro pins s σ H xs us Q I r h
  obtain ⟨v, d, rfl, hd, f, q⟩ := h
  obtain ⟨u, rfl, rv⟩ := vals1 r
  have hdep := f.dep
  obtain ⟨as, rd, hs⟩ := Dv.readsS hs I hd rv
  have fin : ∀ (h' : Heap) (tk : Nat) (t : Tok), (∀ b o, s.heap.get? b = some o → h'.get? b = some o) → EP X pins σ Q (.str d.shown t) { s with heap := h', toks := tk } :=
    fun h' tk t k => ⟨.str d.shown, H, I.kept k, ⟨_, rfl⟩, q⟩
  cases hd with
  | non =>
    cases rv
    exact PySem.P.repr_of_none (fin s.heap _ _ fun _ _ e => e)
  | bl b =>
    cases rv
    exact PySem.P.repr_of_bool (fin s.heap _ _ fun _ _ e => e)
  | int i =>
    obtain ⟨t, rfl⟩ := rv
    exact PySem.P.repr_of_int (by simpa [PyData.showable] using f.sh) (fin s.heap _ _ fun _ _ e => e)
  | str x =>
    obtain ⟨t, rfl⟩ := rv
    exact PySem.P.repr_of_str (fin s.heap _ _ fun _ _ e => e) (by simpa [PyData.shown] using f.len)
  | lst h t =>
    cases rv
    exact repr_of_reads' rd f.sh (fun _ => hs) hg (by omega) (fun _ _ e => e) (fun h' u tk k => fin h' tk u k) f.len
  | tup h t =>
    cases rv
    exact repr_of_reads' rd f.sh (fun _ => hs) hg (by omega) (fun _ _ e => e) (fun h' u tk k => fin h' tk u k) f.len
  | tuf h t =>
    cases rv
    exact repr_of_reads' rd f.sh (fun _ => hs) hg (by omega) (fun _ _ e => e) (fun h' u tk k => fin h' tk u k) f.len
  | dic h t =>
    cases rv
    exact repr_of_reads' rd f.sh (fun _ => hs) hg (by omega) (fun _ _ e => e) (fun h' u tk k => fin h' tk u k) f.len
/-! ### the law's end, with the table of modules -/
theorem lawS {P : Program} {w : World} {K : PySem.W.Frag} {mg mb mm : Str → Option Value} {k : Nat} {fa a : Addr} {fd : FuncData} {x : Str} {sp : Sp}
    {t0 : Shared} {us : List Value} {ns : List Int} (inK : K.In t0.heap) (gl : t0.heap.Ns mainGlobals mg) (bl : t0.heap.Ns builtinsNs mb) (sy : t0.heap.Ns sysModules mm)
    (blt : ∀ y : Str, y ≠ "__name__" → mb y = bootBuiltins y) (lim : t0.heap.NoLimit) (nog : t0.gens = #[])
    (at' : t0.heap.get? a = some { cls := .type "list", data := .seq us.toArray }) (hints : IntsAre us ns) (short : ns.length ≤ sizeLine)
    (room : Room k callerA) (F : ∀ base : Heap, K.In base → base.Ns mainGlobals mg → HasSys base → FnG P w K mg base k fa fd [x] sp)
    (bind : ∀ (s : Shared) (u : Value), BindsTo s fd ⟨[u], []⟩ [(x, u)])
    (want : ∀ H : Hp, SqL K H a (ns.map V.int) → sp [.ref a] H (fun v _ => v = .bl true) fun _ _ _ => False) :
    codeAny (model P w) callerA (.call (.ref fa) ⟨[.ref a], []⟩)
      (fun r s2 => r = .ok (.ret (.bool true)) ∧ OldK t0.heap s2.heap ∧ s2.os = t0.os ∧ AllBare s2.gens) t0 := by
  have vals : Vals (ns.map V.int) us := vals_ints hints
  have same := hints.length
  have main : ∀ H : Hp, (∀ b u, H b = some u → b = a ∧ K.lookup a = none ∧ ∃ o ys, u = .frz o (.lst ys)) → SqL K H a (ns.map V.int) → HOk P w H t0.heap →
      codeAny (model P w) callerA (.call (.ref fa) ⟨[.ref a], []⟩)
        (fun r s2 => r = .ok (.ret (.bool true)) ∧ OldK t0.heap s2.heap ∧ s2.os = t0.os ∧ AllBare s2.gens) t0 := by
    intro H only sq ok
    have noDict : ∀ {b : Addr} {o : Obj} {es : Array DictEntry} {ep : Nat}, t0.heap.get? b = some o → o.data = .dict es ep → H b = none := by
      intro b o es ep e dd
      cases q : H b with
      | none => rfl
      | some u =>
        obtain ⟨rfl, _⟩ := only b u q
        rw [at'] at e
        cases e
        cases dd
    have ns' : ∀ {b : Addr} {m : Str → Option Value}, t0.heap.Ns b m → (hidT t0.heap H).Ns b m := by
      rintro b m ⟨o, es, ep, e, dd, r⟩
      exact ⟨o, es, ep, hidT_get e (noDict e dd), dd, r⟩
    have inB : K.In (hidT t0.heap H) := by
      intro b o e
      refine hidT_get (inK b o e) ?_
      cases q : H b with
      | none => rfl
      | some u =>
        obtain ⟨rfl, z, _⟩ := only b u q
        rw [z] at e
        cases e
    obtain ⟨mc, l1, l2⟩ := lim
    have md : Mod K mg (hidT t0.heap H) := ⟨inB, ns' gl, ⟨mb, ns' bl, blt⟩, mc, ns' l1, l2⟩
    have hsy : HasSys (hidT t0.heap H) := by
      obtain ⟨o, _, _, e, _⟩ := ns' sy
      exact ⟨o, e⟩
    have env : Env0 P w K mg (hidT t0.heap H) callerA [] t0 H :=
      ⟨rfl, md, fun b o e => of_hidT e, Nat.le_of_eq (hidT_size _ _), trivial, fun b hb => absurd hb List.not_mem_nil, ok, AllBare.of_eq nog⟩
    refine codeAny_mono ((F _ inB (ns' gl) hsy).go callerA [] t0 H ⟨[.ref a], []⟩ [.ref a] [.ref a] _ _ room rfl env (bind t0 (.ref a)) (.cons rfl .nil) (want H sq)) ?_
    intro r s2 out
    cases r with
    | error u => exact False.elim out
    | ok fl =>
      cases fl with
      | next => exact False.elim out
      | brk => exact False.elim out
      | cont => exact False.elim out
      | ret u =>
        obtain ⟨v, H2, os, bare, un, ok2, rv, q⟩ := out
        obtain rfl : v = .bl true := q
        obtain rfl : u = Value.bool true := rv
        refine ⟨rfl, OldK.of_keep ?_, os, bare⟩
        intro b o e
        cases z : H b with
        | none => exact un.keep b o e z (by intro y; cases y) (by simp)
        | some u =>
          obtain ⟨_, _, ob, ys, rfl⟩ := only b u z
          obtain ⟨e1, _⟩ := ok b _ z
          obtain ⟨e2, _⟩ := ok2 b _ (un.frzs b ob _ z)
          rw [e] at e1
          cases e1
          exact e2
  cases lk : K.lookup a with
  | some o =>
    have e := inK a o lk
    rw [at'] at e
    cases e
    refine main (fun _ => none) (fun b u z => by cases z) (.inr ⟨_, us.toArray, _, lk, rfl, rfl, rfl, ?_, by simpa using vals⟩) (fun b u z => by cases z)
    rw [List.size_toArray, same]
    exact short
  | none =>
    refine main (fun b => if b = a then some (.frz { cls := .type "list", data := .seq us.toArray } (.lst (ns.map V.int))) else none) ?_ (.inl (.inr ⟨_, if_pos rfl⟩)) ?_
    · intro b u z
      by_cases hb : b = a
      · have z2 := (if_pos hb).symm.trans z
        cases z2
        exact ⟨hb, lk, _, _, rfl⟩
      · have z2 := (if_neg hb).symm.trans z
        cases z2
    · intro b u z
      by_cases hb : b = a
      · have z2 := (if_pos hb).symm.trans z
        subst hb
        cases z2
        exact ⟨at', by rw [List.length_map]; exact short, us, _, vals, at'⟩
      · have z2 := (if_neg hb).symm.trans z
        cases z2
theorem walkS {l : PySem.W.OpenLaw} {n k : Nat} {q : Program} {loose : List Str} {XP : (Str → Option Value) → Heap → Prop} {YP : World → Heap → Prop} {d : DefRec}
    {K : Params → PySem.W.Frag} {sp : World → Sp} {x : Str} (hn : l.most = some n) (hn2 : n ≤ sizeLine) (hdf : d.params.defaults = []) (hr : Room k callerA) (hi : importsNone q = true)
    (hY : ∀ (w : World) (h : Heap), YP w h → (K w.params).In h)
    (F : ∀ (w : World) (mg : Str → Option Value) (fa : Addr) (h : Heap), (K w.params).In h → h.Ns mainGlobals mg → mg d.name = some (.ref fa) →
      ∃ fd : FuncData, (∀ (s : Shared) (u : Value), BindsTo s fd ⟨[u], []⟩ [(x, u)]) ∧
        ∀ base : Heap, (K w.params).In base → base.Ns mainGlobals mg → HasSys base → FnG l.prog w (K w.params) mg base k fa fd [x] (sp w))
    (want : ∀ (w : World) (H : Hp) (a : Addr) (ns : List Int), ns.length ≤ n → SqL (K w.params) H a (ns.map V.int) → sp w [.ref a] H (fun v _ => v = .bl true) fun _ _ _ => False) :
    PySem.W.WalkO q loose XP YP l.row.toRowW d [] (fun f vs => PySem.call f vs) := by
  refine Att.attach_callB hn hdf ?_
  intro w s0 s1 mg mb fa o pm cd doc a vs ns G Y ho hd hcd hmg hobj hints hlen _ hg
  obtain ⟨fd, hb, hF⟩ := F w mg fa _ (hY w _ Y) G.T.g hmg
  obtain ⟨mm, sy, _⟩ := (G.T.seer hi).mods
  exact lawS (hY w _ Y) G.T.g G.T.b sy G.T.builtins G.T.nolimit hg hobj hints (Nat.le_trans hlen hn2) hr hF hb fun H hS => want w H a ns hlen hS
end Lr

namespace Lr
open PySem L2 PySem.Spec PyProof.Rows
theorem flat_ints (ys : List Int) : (ys.map V.int).all flatV = true := by
  rw [List.all_map]
  exact List.all_eq_true.mpr fun _ _ => rfl
theorem nd_inj : ∀ {l : List Int}, l.Nodup → ∀ {i j : Nat} (hi : i < l.length) (hj : j < l.length), l[i] = l[j] → i = j
  | x :: r, nd, 0, 0, _, _, _ => rfl
  | x :: r, nd, 0, j + 1, _, hj, h => by
    have := List.nodup_cons.mp nd
    exact absurd (by simp only [List.getElem_cons_zero, List.getElem_cons_succ] at h; rw [h]; exact List.getElem_mem _) this.1
  | x :: r, nd, i + 1, 0, hi, _, h => by
    have := List.nodup_cons.mp nd
    exact absurd (by simp only [List.getElem_cons_zero, List.getElem_cons_succ] at h; rw [← h]; exact List.getElem_mem _) this.1
  | x :: r, nd, i + 1, j + 1, hi, hj, h => by
    have := nd_inj (List.nodup_cons.mp nd).2 (i := i) (j := j) (by simpa using hi) (by simpa using hj) (by simpa using h)
    omega
/-! ### t.index(x) of a tuple of ints, the first place -/
def rTupIx (K : PySem.W.Frag) : V → List V → Hp → VK → Prop := fun x xs H Q => ∃ (p : Addr) (ys : List Int) (z : Int) (j : Nat), x = .ref p ∧ xs = [.int z] ∧ SqT K H p (ys.map V.int) ∧ ys[j]? = some z ∧ (∀ m, m < j → ys[m]? ≠ some z) ∧ Q (.int (j : Nat)) H
theorem mt_tupIx {X : Cx} {K : PySem.W.Frag} (hK : X.K = K) : MtR X "tuple.index" (rTupIx K) := by
  subst hK
  intro pins s σ H x xs v us Q I rx rs h
  obtain ⟨p, ys, z, j, rfl, rfl, hq, hy, hno, q⟩ := h
  cases rx
  obtain ⟨u, rfl, t, rfl⟩ := vals1 rs
  obtain ⟨its, r, pl, hz⟩ := I.tuple hq
  obtain ⟨⟨cls, dd, dt, sl⟩, ho, hc, n, hd⟩ := pl
  simp only at hc hd
  subst hc
  subst hd
  have hl : its.toArray.size = ys.length := by rw [List.size_toArray, ← r.length, List.length_map]
  have hj : j < its.toArray.size := by rw [hl]; exact (List.getElem?_eq_some_iff.mp hy).1
  have at' : ∀ (m : Nat) (hm : m < its.toArray.size), ∃ y t', ys[m]? = some y ∧ its.toArray[m] = Value.int y t' := fun m hm => by
    have hm' : m < ys.length := by rw [← hl]; exact hm
    obtain ⟨w, hw, t', hw'⟩ := r.get (i := m) (x := .int ys[m]) (by simp [hm'])
    refine ⟨ys[m], t', List.getElem?_eq_getElem hm', ?_⟩
    have e := (List.getElem?_eq_some_iff.mp hw).2
    rw [← hw', ← e]
    simp
  refine call_meets PySem.F.slot_tuple_index ⟨_, ho, rfl⟩ PySem.F.entry_tuple_index (PySem.F.args_tuple_index_2 _ _) (TI.tuple_indexAt p its.toArray n dd sl (.int z t) (eqU (.int z)) j hj ?_ ?_)
    ⟨ho, fun w hw => mem_eqAt (x := .int z) ⟨t, rfl⟩ rfl r (flat_ints ys) w (by simpa using hw), ⟨.int (j : Nat), H, I.tok _, ⟨_, rfl⟩, q⟩⟩
  · obtain ⟨y, t', h1, h2⟩ := at' j hj
    rw [hy] at h1
    cases h1
    rw [h2]
    show (z == z) = true
    exact beq_self_eq_true z
  · intro m hm hmj
    obtain ⟨y, t', h1, h2⟩ := at' m hm
    rw [h2]
    show (y == z) = false
    exact beq_eq_false_iff_ne.mpr fun e => hno m hmj (e ▸ h1)
/-- t.index(e) -/
def tTix (K : PySem.W.Frag) (to te : TE) : TE := fun σ H Q => to σ H fun x H1 => (∃ p xs, x = .ref p ∧ Ti H1 p xs) ∧ te σ H1 fun y H2 => rTupIx K x [y] H2 Q
theorem pe_tix {X : Cx} {K : PySem.W.Frag} {o e : Expr} {to te : TE} {apos cpos : Pos} (hK : X.K = K) (ho : PE X o to) (he : PE X e te)
    (hbase : attributeBase o "index" X.env (eval o X.env) = eval o X.env := by rfl)
    (hfew : ((backTo cpos (starEach (e :: []) X.env)).all (fun x => !x.1) && (backToKw cpos (keywordEach [] X.env)).all (fun x => x.1.isSome)
      && decide ((e :: ([] : List Expr)).length + ([] : List Keyword).length + (if ([] : List Keyword).isEmpty then 0 else 1) < 30)) = true := by rfl)
    (hline : (apos.endLine == cpos.line) = true := by rfl) (hs : starEach (e :: []) X.env = (false, eval e X.env) :: starEach [] X.env := by rfl) (hplain : (backTo cpos (starEach [] X.env)).any (·.1) = false := by rfl) :
    PE X (.Call (.Attribute o "index" apos) (e :: []) [] cpos) (tTix K to te) := by
  subst hK
  have ha : PA X [e] (tCons te tNil) := pa_cons he pa_nil hs
  refine ⟨fun pins s σ H Q I h => ?_⟩
  refine wpAny_Call_method_late hbase hfew hline rfl (thn (ho.run pins s σ H _ I h) fun v s1 ⟨x, H1, I1, r1, ⟨p, xs, ex, o1, hp, hdn⟩, q1⟩ => ?_)
  subst ex
  cases r1
  obtain ⟨hg, _, its, _, o2, hg2, hc, _⟩ := I1.hok p _ hp
  have eo : o1 = o2 := by
    rw [hg] at hg2
    exact Option.some.inj hg2
  subst eo
  refine ⟨"tuple", _, PySem.F.plainAttrs_tuple, PySem.F.slot_tuple_index, PySem.F.type_tuple_index, ⟨_, hg, hc⟩, fun a ea => ?_, ?_⟩
  · cases ea
    exact ⟨_, hg, hdn⟩
  have hA := ha.run cpos pins s1 σ H1 (fun vs H2 => rTupIx X.K (.ref p) vs H2 Q) I1 q1
  rw [hs] at hA ⊢
  refine Calls.callWith_builtin (by show (false || (backTo cpos (starEach [] X.env)).any (·.1)) = false; rw [hplain] <;> rfl) (Calls.evalArgs_plain ?_)
  exact thn hA fun us s2 ⟨vs, H2, I2, r2, q2⟩ => mt_tupIx rfl pins s2 σ H2 (.ref p) vs _ us Q I2 rfl r2 q2
theorem k_any {X : Cx} {K : PySem.W.Frag} (hK : X.K = K) (hc : X.calm = true) : CallR X (.builtin "any") (rAny K) := by
  subst hK
  exact cr_any hc
theorem sl_ti {K : PySem.W.Frag} {H : Hp} {a : Addr} {xs : List V} {Q : VK} {lo hi : Option Int} (h : Tu H a xs) (k : ∀ b H', Ex H H' → Tu H' b (cutV xs lo hi) → Q (.ref b) H') : rSlA K (.ref a) lo hi H Q :=
  ⟨a, xs, rfl, h.sq, fun w => k a H (Evl.Ex.refl H) (by rw [cut_whole w]; exact h), fun _ p hp => k p _ (Evl.Ex.new hp) (.inl upd_same)⟩
/-! ### [e for x in .. if ..], the values told -/
section
variable {K : PySem.W.Frag} {a : Addr} {tt : TT} {te : TE} {vs : List Nat} {σ : L2.St} {H1 : Hp} {D : Addr} {Qd : Hp → Prop} {j : Nat}
theorem mf_turn {α : Type} {xs : List α} (f : α → Bool) (g : α → V) (hD : H1 D = none) (hn : xs.length < 100000) {i : Nat} {x : α} {σ2 : L2.St} {H' : Hp} (hi : xs[i]? = some x) (e : Ex H1 H') (hy : H' D = some (.lst (((xs.take i).filter f).map g)))
    (ht : ∀ Q : Bool → Hp → Prop, (∀ H2, Ex H' H2 → Q (f x) H2) → tt σ2 H' Q) (he : ∀ H2, Ex H' H2 → f x = true → ∀ Q : VK, (∀ H3, Ex H2 H3 → Q (g x) H3) → te σ2 H2 Q) :
    tt σ2 H' fun b H3 => if b = true then te σ2 H3 fun y H4 => ∃ acc, H4 D = some (.lst acc) ∧ acc.length < sizeLine ∧ (Ex H1 (upd H4 D (.lst (acc ++ [y]))) ∧ (upd H4 D (.lst (acc ++ [y]))) D = some (.lst (((xs.take (i + 1)).filter f).map g)))
      else (Ex H1 H3 ∧ H3 D = some (.lst (((xs.take (i + 1)).filter f).map g))) := by
  have lt := (List.getElem?_eq_some_iff.mp hi).1
  have step : xs.take (i + 1) = xs.take i ++ [x] := by
    rw [List.take_succ, hi]
    rfl
  refine ht _ fun H2 e2 => ?_
  cases hf : f x with
  | true =>
    refine iteT (he H2 e2 hf _ fun H3 e3 => ⟨_, e3 _ _ (e2 _ _ hy), ?_, Evl.Ex.mut ((e.trans e2).trans e3) hD, ?_⟩)
    · rw [List.length_map]
      refine Nat.lt_of_le_of_lt (List.length_filter_le _ _) (Evl.sz_lt ?_)
      rw [List.length_take]
      omega
    · rw [upd_same, step, List.filter_append]
      simp [hf]
  | false =>
    refine iteF ⟨e.trans e2, ?_⟩
    rw [e2 _ _ hy, step, List.filter_append]
    simp [hf]
theorem mf_list {xs : List V} (f : V → Bool) (g : V → V) (hD : H1 D = none) (hx : SqL K H1 a xs) (hn : xs.length < 100000) (hw : ∀ x, wipe ((wipe σ vs).set j (some x)) vs = wipe σ vs)
    (ht : ∀ x H', x ∈ xs → Ex H1 H' → ∀ Q : Bool → Hp → Prop, (∀ H2, Ex H' H2 → Q (f x) H2) → tt ((wipe σ vs).set j (some x)) H' Q)
    (he : ∀ x H', x ∈ xs → Ex H1 H' → f x = true → ∀ Q : VK, (∀ H3, Ex H' H3 → Q (g x) H3) → te ((wipe σ vs).set j (some x)) H' Q)
    (hd : ∀ H', Ex H1 H' → H' D = some (.lst ((xs.filter f).map g)) → Qd H') :
    ∃ W : Nat → Nat → Hp → Prop, (∃ m, W 0 m (upd H1 D (.lst []))) ∧ ∀ i m H, W i m H →
      ((Itl K a).stop i H ∧ Qd H) ∨ ((Itl K a).go i H ∧ ∃ Nx : Hp → Prop, (∀ H', Nx H' → ∃ m', m' < m ∧ W (i + 1) m' H') ∧ ∀ x H', (Itl K a).yld i H x H' → gName j x (wipe σ vs) H' fun σ2 H2 => wipe σ2 vs = wipe σ vs ∧ tt σ2 H2 fun b H3 =>
        if b = true then te σ2 H3 fun y H4 => ∃ acc, H4 D = some (.lst acc) ∧ acc.length < sizeLine ∧ Nx (upd H4 D (.lst (acc ++ [y]))) else Nx H3) := by
  refine lc_list (xs := xs) (fun i H' => Ex H1 H' ∧ H' D = some (.lst (((xs.take i).filter f).map g))) ⟨Evl.Ex.new hD, by simp [upd_same]⟩ (fun i H' _ h => Evl.ex_l h.1 hx) ?_ ?_
  · rintro i x H' hi ⟨e, hy⟩
    have hm := List.mem_of_getElem? hi
    exact ⟨hw x, mf_turn f g hD hn hi e hy (ht x H' hm e) fun H2 e2 hf => he x H2 hm (e.trans e2) hf⟩
  · rintro H' ⟨e, hy⟩
    rw [List.take_of_length_le (Nat.le_refl _)] at hy
    exact hd H' e hy
theorem mf_tup {xs : List V} (f : V → Bool) (g : V → V) (hD : H1 D = none) (hx : SqT K H1 a xs) (hn : xs.length < 100000) (hw : ∀ x, wipe ((wipe σ vs).set j (some x)) vs = wipe σ vs)
    (ht : ∀ x H', x ∈ xs → Ex H1 H' → ∀ Q : Bool → Hp → Prop, (∀ H2, Ex H' H2 → Q (f x) H2) → tt ((wipe σ vs).set j (some x)) H' Q)
    (he : ∀ x H', x ∈ xs → Ex H1 H' → f x = true → ∀ Q : VK, (∀ H3, Ex H' H3 → Q (g x) H3) → te ((wipe σ vs).set j (some x)) H' Q)
    (hd : ∀ H', Ex H1 H' → H' D = some (.lst ((xs.filter f).map g)) → Qd H') :
    ∃ W : Nat → Nat → Hp → Prop, (∃ m, W 0 m (upd H1 D (.lst []))) ∧ ∀ i m H, W i m H →
      ((Itt K a).stop i H ∧ Qd H) ∨ ((Itt K a).go i H ∧ ∃ Nx : Hp → Prop, (∀ H', Nx H' → ∃ m', m' < m ∧ W (i + 1) m' H') ∧ ∀ x H', (Itt K a).yld i H x H' → gName j x (wipe σ vs) H' fun σ2 H2 => wipe σ2 vs = wipe σ vs ∧ tt σ2 H2 fun b H3 =>
        if b = true then te σ2 H3 fun y H4 => ∃ acc, H4 D = some (.lst acc) ∧ acc.length < sizeLine ∧ Nx (upd H4 D (.lst (acc ++ [y]))) else Nx H3) := by
  refine lc_tup (xs := xs) (fun i H' => Ex H1 H' ∧ H' D = some (.lst (((xs.take i).filter f).map g))) ⟨Evl.Ex.new hD, by simp [upd_same]⟩ (fun i H' _ h => Evl.ex_t h.1 hx) ?_ ?_
  · rintro i x H' hi ⟨e, hy⟩
    have hm := List.mem_of_getElem? hi
    exact ⟨hw x, mf_turn f g hD hn hi e hy (ht x H' hm e) fun H2 e2 hf => he x H2 hm (e.trans e2) hf⟩
  · rintro H' ⟨e, hy⟩
    rw [List.take_of_length_le (Nat.le_refl _)] at hy
    exact hd H' e hy
/-- lo, lo + 1, .. n of them -/
def rgL (lo : Int) (n : Nat) : List Int := (List.range n).map fun (i : Nat) => lo + (i : Int)
theorem rgL_len (lo : Int) (n : Nat) : (rgL lo n).length = n := by unfold rgL; simp
theorem rgL_get {lo : Int} {n i : Nat} (h : i < n) : (rgL lo n)[i]? = some (lo + (i : Int)) := by unfold rgL; simp [h]
theorem mem_rgL {lo x : Int} {n : Nat} : x ∈ rgL lo n ↔ lo ≤ x ∧ x < lo + n := by
  unfold rgL
  simp only [List.mem_map, List.mem_range]
  constructor
  · rintro ⟨k, hk, rfl⟩
    omega
  · rintro ⟨h0, h1⟩
    exact ⟨(x - lo).toNat, by omega, by omega⟩
theorem mf_range {lo : Int} {n : Nat} (f : Int → Bool) (g : Int → V) (hD : H1 D = none) (hn : n < 100000) (hw : ∀ x, wipe ((wipe σ vs).set j (some x)) vs = wipe σ vs)
    (ht : ∀ x H', x ∈ rgL lo n → Ex H1 H' → ∀ Q : Bool → Hp → Prop, (∀ H2, Ex H' H2 → Q (f x) H2) → tt ((wipe σ vs).set j (some (.int x))) H' Q)
    (he : ∀ x H', x ∈ rgL lo n → Ex H1 H' → f x = true → ∀ Q : VK, (∀ H3, Ex H' H3 → Q (g x) H3) → te ((wipe σ vs).set j (some (.int x))) H' Q)
    (hd : ∀ H', Ex H1 H' → H' D = some (.lst (((rgL lo n).filter f).map g)) → Qd H') :
    ∃ W : Nat → Nat → Hp → Prop, (∃ m, W 0 m (upd H1 D (.lst []))) ∧ ∀ i m H, W i m H →
      ((Itr lo n).stop i H ∧ Qd H) ∨ ((Itr lo n).go i H ∧ ∃ Nx : Hp → Prop, (∀ H', Nx H' → ∃ m', m' < m ∧ W (i + 1) m' H') ∧ ∀ x H', (Itr lo n).yld i H x H' → gName j x (wipe σ vs) H' fun σ2 H2 => wipe σ2 vs = wipe σ vs ∧ tt σ2 H2 fun b H3 =>
        if b = true then te σ2 H3 fun y H4 => ∃ acc, H4 D = some (.lst acc) ∧ acc.length < sizeLine ∧ Nx (upd H4 D (.lst (acc ++ [y]))) else Nx H3) := by
  refine lc_range (lo := lo) (n := n) (fun i H' => Ex H1 H' ∧ H' D = some (.lst ((((rgL lo n).take i).filter f).map g))) ⟨Evl.Ex.new hD, by simp [upd_same]⟩ ?_ ?_
  · rintro i H' hi ⟨e, hy⟩
    have hg := rgL_get (lo := lo) hi
    have hm := List.mem_of_getElem? hg
    exact ⟨hw _, mf_turn f g hD (by rw [rgL_len]; exact hn) hg e hy (ht _ H' hm e) fun H2 e2 hf => he _ H2 hm (e.trans e2) hf⟩
  · rintro H' ⟨e, hy⟩
    rw [List.take_of_length_le (by rw [rgL_len]; exact Nat.le_refl _)] at hy
    exact hd H' e hy
theorem tt_yes {σ2 : L2.St} {H' : Hp} {Q : Bool → Hp → Prop} (q : ∀ H2, Ex H' H2 → Q true H2) : tYes σ2 H' Q := q H' (Evl.Ex.refl H')
end
/-! ### {x: i for i, x in enumerate(a tuple of different ints)} -/
section
variable {K : PySem.W.Frag} {a : Addr} {vs : List Nat} {σ : L2.St} {H1 : Hp} {D : Addr} {Qd : Hp → Prop} {i j : Nat} {tk tv : TE}
theorem dc_places {ns : List Int} (nd : ns.Nodup) (hn : ns.length < 100000) (hD : H1 D = none) (ha : Tu H1 a (ns.map V.int))
    (hw : ∀ x y, wipe (((wipe σ vs).set i (some x)).set j (some y)) vs = wipe σ vs)
    (hk : ∀ x y H' (R : VK), R y H' → tk (((wipe σ vs).set i (some x)).set j (some y)) H' R) (hv : ∀ x y H' (R : VK), R x H' → tv (((wipe σ vs).set i (some x)).set j (some y)) H' R)
    (hd : ∀ kvs H', Ex H1 H' → H' D = some (.dK kvs) → (∀ (k : Nat) (z : Int), ns[k]? = some z → valV kvs (Sum.inl z : Key) = some (.int (k : Int))) → Qd H') :
    ∃ W : Nat → Nat → Hp → Prop, (∃ m, W 0 m (upd H1 D (.dK []))) ∧ ∀ n m H, W n m H →
      ((ItT a (ns.map V.int)).stop n H ∧ Qd H) ∨ ((ItT a (ns.map V.int)).go n H ∧ ∃ Nx : Hp → Prop, (∀ H', Nx H' → ∃ m', m' < m ∧ W (n + 1) m' H') ∧ ∀ x H', (ItT a (ns.map V.int)).yld n H x H' →
        gTup K 2 (gCons (gName i) (gCons (gName j) gNil)) x (wipe σ vs) H' fun σ2 H2 => wipe σ2 vs = wipe σ vs ∧ tYes σ2 H2 fun b H3 =>
        if b = true then tk σ2 H3 fun y H4 => tv σ2 H4 fun z H5 => ∃ kvs k, y = kV k ∧ H5 D = some (.dK kvs) ∧ kvs.length < sizeLine ∧ Nx (upd H5 D (.dK (putK kvs k z))) else Nx H3) := by
  refine ⟨fun n m H' => m = ns.length - n ∧ n ≤ ns.length ∧ Ex H1 H' ∧ ∃ kvs, H' D = some (.dK kvs) ∧ kvs.length ≤ n ∧ ∀ (k : Nat) (z : Int), k < n → ns[k]? = some z → valV kvs (Sum.inl z : Key) = some (.int (k : Int)), ⟨_, rfl, Nat.zero_le _, Evl.Ex.new hD, [], upd_same, Nat.le_refl _, fun k z h => absurd h (Nat.not_lt_zero _)⟩, ?_⟩
  rintro n m H' ⟨rfl, hle, e, kvs, hk1, hk2, hk3⟩
  have ha' := ha.ex e
  by_cases lt : n < ns.length
  · refine .inr ⟨⟨ha', by rw [List.length_map]; exact lt⟩, _, fun H2 q => ⟨ns.length - (n + 1), by omega, rfl, lt, q⟩, ?_⟩
    rintro y H3 ⟨T, x, rfl, hT, hx, rfl⟩
    rw [List.getElem?_map, List.getElem?_eq_getElem lt] at hx
    cases hx
    refine ⟨T, _, rfl, SqT.of upd_same, rfl, _, _, rfl, _, _, rfl, rfl, hw _ _, yesT (hk _ _ _ _ (hv _ _ _ _ ⟨kvs, Sum.inl ns[n], rfl, ?_, ?_, ?_⟩))⟩
    · rw [upd_ne (ne_of_none hk1 hT)]
      exact hk1
    · exact Nat.lt_of_le_of_lt hk2 (Evl.sz_lt (by omega))
    · refine ⟨Evl.Ex.mut (e.trans (Evl.Ex.new hT)) hD, _, upd_same, ?_, fun k z hkn hz => ?_⟩
      · have := length_putK kvs (Sum.inl ns[n] : Key) (.int (n : Int))
        omega
      · rw [valV_put]
        by_cases hkn2 : k < n
        · have hz2 := List.getElem?_eq_some_iff.mp hz
          obtain ⟨hkl, hz3⟩ := hz2
          have : ¬ (Sum.inl z : Key) = Sum.inl ns[n] := fun q => by
            have q2 := Sum.inl.inj q
            rw [← hz3] at q2
            have := nd_inj nd hkl lt q2
            omega
          rw [if_neg this]
          exact hk3 k z hkn2 hz
        · have ek : k = n := by omega
          subst ek
          rw [List.getElem?_eq_getElem lt] at hz
          cases hz
          rw [if_pos rfl]
  · have en : n = ns.length := by omega
    subst en
    exact .inl ⟨⟨ha', by rw [List.length_map]; exact Nat.le_refl _⟩, hd kvs H' e hk1 fun k z hz => hk3 k z (List.getElem?_eq_some_iff.mp hz).1 hz⟩
end
end Lr

namespace Lr
open PySem L2
/-! ### an urn of numbers that counts its turns: its dict is known by how often it was asked at most; Ed: the urn was asked n times, all else stays -/
def noExt : HO → Bool
  | .ext _ => false
  | _ => true
def urnKvs (l : Addr) (t : Int) : List (Key × V) := [(Sum.inr "cells", .ref l), (Sum.inr "turn", .int t)]
def CellsOk (cs : List Int) : Prop := (∀ x ∈ cs, 0 ≤ x) ∧ cs ≠ [] ∧ cs.length ≤ 64
section
variable (P : Program) (w : World)
def phiU (c l : Addr) (T : Nat) : Heap → Prop := fun h => ∃ t : Int, 0 ≤ t ∧ t ≤ T ∧ ObjOk P w H0 h c (.dK (urnKvs l t))
def phiL (l : Addr) : Heap → Prop := fun h => ∃ cs : List Int, CellsOk cs ∧ ObjOk P w H0 h l (.lst (cs.map V.int))
def UrnAt (H : Hp) (c l : Addr) (T : Nat) : Prop := ∃ T', T' ≤ T ∧ H c = some (.ext (phiU P w c l T')) ∧ H l = some (.ext (phiL P w l)) ∧ l ≠ c
/-- all but what is told by ext stays -/
def Exn (H H' : Hp) : Prop := ∀ a o, noExt o = true → H a = some o → H' a = some o
/-- from H to H' all but the urn stays; the urn was asked at most T times in all -/
structure Ed (c l : Addr) (T : Nat) (H H' : Hp) : Prop where
  keep : Exn H H'
  back : ∀ a, H' a = none → H a = none
  urn : UrnAt P w H' c l T
  sc : H c ≠ none
  sl : H l ≠ none
end
section
variable {P : Program} {w : World} {H H' H2 : Hp} {c l p : Addr} {n m T T2 : Nat} {o : HO}
theorem UrnAt.le {T' : Nat} (h : UrnAt P w H c l T) (hl : T ≤ T') : UrnAt P w H c l T' := by
  obtain ⟨t, a, b⟩ := h
  exact ⟨t, by omega, b⟩
theorem UrnAt.ex (h : UrnAt P w H c l T) (e : Ex H H') : UrnAt P w H' c l T := by
  obtain ⟨t, a, b, d, f⟩ := h
  exact ⟨t, a, e _ _ b, e _ _ d, f⟩
theorem UrnAt.cc (h : UrnAt P w H c l T) : H c ≠ none := by
  obtain ⟨t, a, b, d, f⟩ := h
  rw [b]; exact fun z => nomatch z
theorem UrnAt.ll (h : UrnAt P w H c l T) : H l ≠ none := by
  obtain ⟨t, a, b, d, f⟩ := h
  rw [d]; exact fun z => nomatch z
theorem UrnAt.of (h : UrnAt P w H c l T) (e : Ex H H') : Ed P w c l T H H' := ⟨fun a o _ h => e a o h, fun _ h => Evl.fresh_back e h, h.ex e, h.cc, h.ll⟩
theorem UrnAt.rf (h : UrnAt P w H c l T) : Ed P w c l T H H := h.of (Evl.Ex.refl H)
theorem Ed.trans (a : Ed P w c l T H H') (b : Ed P w c l T2 H' H2) : Ed P w c l T2 H H2 :=
  ⟨fun x o z h => b.keep x o z (a.keep x o z h), fun x h => a.back x (b.back x h), b.urn, a.sc, a.sl⟩
theorem Ed.le (a : Ed P w c l T H H') (h : T ≤ T2) : Ed P w c l T2 H H' := ⟨a.keep, a.back, a.urn.le h, a.sc, a.sl⟩
/-- behind it, a step that leaves all as it is -/
theorem Ed.ex (a : Ed P w c l T H H') (e : Ex H' H2) : Ed P w c l T H H2 := a.trans (a.urn.of e)
theorem Ed.pre (e : Ex H H') (C : UrnAt P w H c l T) (a : Ed P w c l T2 H' H2) : Ed P w c l T2 H H2 := (C.of e).trans a
theorem Ed.new (a : Ed P w c l T H H') (h : H' p = none) : Ed P w c l T H (upd H' p o) := a.ex (Evl.Ex.new h)
theorem Ed.mut (a : Ed P w c l T H H') (h : H p = none) : Ed P w c l T H (upd H' p o) := by
  have h1 : c ≠ p := fun z => a.sc (by rw [z]; exact h)
  have h2 : l ≠ p := fun z => a.sl (by rw [z]; exact h)
  refine ⟨fun x u z e => by rw [upd_ne (ne_of_none e h)]; exact a.keep x u z e, fun x z => ?_, ?_, a.sc, a.sl⟩
  · by_cases hx : x = p
    · rw [hx]; exact h
    · rw [upd_ne hx] at z; exact a.back x z
  · obtain ⟨t, q1, q2, q3, q4⟩ := a.urn
    exact ⟨t, q1, by rw [upd_ne h1]; exact q2, by rw [upd_ne h2]; exact q3, q4⟩
theorem Ed.sq {xs : List V} (e : Ed P w c l T H H') (h : H p = some (.lst xs)) : H' p = some (.lst xs) := e.keep _ _ rfl h
theorem Ed.tu {xs : List V} (e : Ed P w c l T H H') (h : H p = some (.tup xs)) : H' p = some (.tup xs) := e.keep _ _ rfl h
theorem Ed.di {xs : List (Key × V)} (e : Ed P w c l T H H') (h : H p = some (.dK xs)) : H' p = some (.dK xs) := e.keep _ _ rfl h
mutual
theorem Dv.exn (e : Exn H H') : ∀ {v : V} {d : PyData}, Dv H v d → Dv H' v d
  | _, _, .non => .non
  | _, _, .bl b => .bl b
  | _, _, .int i => .int i
  | _, _, .str x => .str x
  | _, _, .lst h t => .lst (e _ _ rfl h) (DvAll.exn e t)
  | _, _, .tup h t => .tup (e _ _ rfl h) (DvAll.exn e t)
  | _, _, .tuf h t => .tuf (e _ _ rfl h) (DvAll.exn e t)
  | _, _, .dic h t => .dic (e _ _ rfl h) (DvKv.exn e t)
theorem DvAll.exn (e : Exn H H') : ∀ {v : List V} {d : List PyData}, DvAll H v d → DvAll H' v d
  | _, _, .nil => .nil
  | _, _, .cons a b => .cons (Dv.exn e a) (DvAll.exn e b)
theorem DvKv.exn (e : Exn H H') : ∀ {v : List (Key × V)} {d : List (PyData × PyData)}, DvKv H v d → DvKv H' v d
  | _, _, .nil => .nil
  | _, _, .cons a b => .cons (Dv.exn e a) (DvKv.exn e b)
end
theorem Dv.ed {v : V} {d : PyData} (h : Dv H v d) (e : Ed P w c l T H H') : Dv H' v d := h.exn e.keep
theorem Tu.exn {a : Addr} {xs : List V} (h : Tu H a xs) (e : Exn H H') : Tu H' a xs := by
  rcases h with h | ⟨o, h⟩
  · exact .inl (e _ _ rfl h)
  · exact .inr ⟨o, e _ _ rfl h⟩
theorem Ti.exn {a : Addr} {xs : List V} (h : Ti H a xs) (e : Exn H H') : Ti H' a xs := by obtain ⟨o, h, d⟩ := h; exact ⟨o, e _ _ rfl h, d⟩
theorem Ti.ed {a : Addr} {xs : List V} (h : Ti H a xs) (e : Ed P w c l T H H') : Ti H' a xs := by obtain ⟨o, h, d⟩ := h; exact ⟨o, e.keep _ _ rfl h, d⟩
theorem Tu.ed {a : Addr} {xs : List V} (h : Tu H a xs) (e : Ed P w c l T H H') : Tu H' a xs := by
  rcases h with h | ⟨o, h⟩
  · exact .inl (e.keep _ _ rfl h)
  · exact .inr ⟨o, e.keep _ _ rfl h⟩
theorem sqL_ed {K : PySem.W.Frag} {a : Addr} {xs : List V} (e : Ed P w c l T H H') (h : SqL K H a xs) : SqL K H' a xs := by
  rcases h with (h | ⟨o, h⟩) | h
  · exact .inl (.inl (e.keep _ _ rfl h))
  · exact .inl (.inr ⟨o, e.keep _ _ rfl h⟩)
  · exact .inr h
end
section
variable {P : Program} {w : World} {H H' : Hp} {c d l : Addr} {T : Nat}
theorem stayU {h1 h2 : Heap} (x : phiU P w c l T h1) (k : ∀ o, h1.get? c = some o → h2.get? c = some o) : phiU P w c l T h2 := by
  obtain ⟨t, a, b, x⟩ := x
  refine ⟨t, a, b, ObjOk.stay x (fun b u hb e => ?_) (fun _ q => nomatch q) fun _ _ q => nomatch q⟩
  rcases hb with rfl | q
  · exact k u e
  · cases q
theorem stayL {h1 h2 : Heap} (x : phiL P w d h1) (k : ∀ o, h1.get? d = some o → h2.get? d = some o) : phiL P w d h2 := by
  obtain ⟨t, g, x⟩ := x
  refine ⟨t, g, ObjOk.stay x (fun b u hb e => ?_) (fun _ q => nomatch q) fun _ _ q => nomatch q⟩
  rcases hb with rfl | q
  · exact k u e
  · cases q
end
section
variable {X : Cx} {pins : List (Addr × Obj)} {σ : L2.St} {H : Hp} {s : Shared} {c l : Addr} {T : Nat}
theorem openU (I : Inv X pins σ H s) (h1 : H c = some (.ext (phiU X.prog X.w c l T))) (h2 : H l = some (.ext (phiL X.prog X.w l))) (hcl : l ≠ c) :
    ∃ (t : Int) (cs : List Int), 0 ≤ t ∧ t ≤ T ∧ CellsOk cs ∧ Inv X pins σ (upd (upd H c (.dK (urnKvs l t))) l (.lst (cs.map V.int))) s := by
  obtain ⟨⟨t, t0, t1, x1⟩, th1, _⟩ := I.hok c _ h1
  obtain ⟨⟨cs, g, x2⟩, th2, _⟩ := I.hok l _ h2
  have I1 := reword (o' := .dK (urnKvs l t)) I h1 trivial x1 th1
  have h3 : upd H c (.dK (urnKvs l t)) l = some (.ext (phiL X.prog X.w l)) := by rw [upd_ne hcl]; exact h2
  exact ⟨t, cs, t0, t1, g, reword (o' := .lst (cs.map V.int)) I1 h3 trivial x2 th2⟩
theorem closeU {t : Int} {cs : List Int} (I : Inv X pins σ H s) (h1 : H c = some (.dK (urnKvs l t))) (h2 : H l = some (.lst (cs.map V.int))) (t0 : 0 ≤ t) (t1 : t ≤ T) (g : CellsOk cs) (hcl : l ≠ c) :
    Inv X pins σ (upd (upd H c (.ext (phiU X.prog X.w c l T))) l (.ext (phiL X.prog X.w l))) s := by
  have x1 : ObjOk X.prog X.w H0 s.heap c (.dK (urnKvs l t)) := I.hok c _ h1
  have x2 : ObjOk X.prog X.w H0 s.heap l (.lst (cs.map V.int)) := I.hok l _ h2
  have I1 := reword (o' := .ext (phiU X.prog X.w c l T)) I h1 trivial ⟨⟨t, t0, t1, x1⟩, there_dK x1, fun _ _ p k => stayU p k⟩ (there_dK x1)
  have h3 : upd H c (.ext (phiU X.prog X.w c l T)) l = some (.lst (cs.map V.int)) := by rw [upd_ne hcl]; exact h2
  exact reword (o' := .ext (phiL X.prog X.w l)) I1 h3 trivial ⟨⟨cs, g, x2⟩, there_lst x2, fun _ _ p k => stayL p k⟩ (there_lst x2)
end
/-- a body that opens the urn, and closes it ahead of each return -/
def tUrn (P : Program) (w : World) (t : TS) : TS := fun D σ H => ∃ (c l : Addr) (T T2 : Nat), H c = some (.ext (phiU P w c l T)) ∧ H l = some (.ext (phiL P w l)) ∧ l ≠ c ∧
  ∀ (tm : Int) (cs : List Int), 0 ≤ tm → tm ≤ T → CellsOk cs → t ⟨fun _ _ => False, fun v H' => (∃ (tm' : Int) (cs' : List Int), H' c = some (.dK (urnKvs l tm')) ∧ H' l = some (.lst (cs'.map V.int)) ∧ 0 ≤ tm' ∧ tm' ≤ T2 ∧ CellsOk cs' ∧
    D.rt v (upd (upd H' c (.ext (phiU P w c l T2))) l (.ext (phiL P w l)))), fun _ _ => False, fun _ _ => False⟩ σ (upd (upd H c (.dK (urnKvs l tm))) l (.lst (cs.map V.int)))
theorem pss_urn {X : Cx} {st : List Stmt} {t : TS} (h : PSs X st t) : PSs X st (tUrn X.prog X.w t) := by
  refine ⟨fun pins s σ H D I hw => ?_⟩
  obtain ⟨c, l, T, T2, h1, h2, hcl, hw⟩ := hw
  obtain ⟨tm, cs, t0, t1, g, I1⟩ := openU I h1 h2 hcl
  refine thn (h.run pins s σ _ _ I1 (hw tm cs t0 t1 g)) fun f s1 q => ?_
  cases f with
  | next => obtain ⟨_, _, _, z⟩ := q; exact z.elim
  | brk => obtain ⟨_, _, _, z⟩ := q; exact z.elim
  | cont => obtain ⟨_, _, _, z⟩ := q; exact z.elim
  | ret v =>
    obtain ⟨x, σ', H', I2, r, tm', cs', e1, e2, t0', t1', g', z⟩ := q
    exact ⟨x, σ', _, closeU I2 e1 e2 t0' t1' g' hcl, r, z⟩
/-- a body that makes an urn closes it ahead of its return -/
def tShutU (P : Program) (w : World) (t : TS) : TS := fun D σ H => t ⟨fun _ _ => False, fun v H' => (∃ (c l : Addr) (tm : Int) (cs : List Int) (T : Nat), v = .ref c ∧ H' c = some (.dK (urnKvs l tm)) ∧ H' l = some (.lst (cs.map V.int)) ∧ 0 ≤ tm ∧ tm ≤ T ∧ CellsOk cs ∧ l ≠ c ∧
    D.rt v (upd (upd H' c (.ext (phiU P w c l T))) l (.ext (phiL P w l)))), fun _ _ => False, fun _ _ => False⟩ σ H
theorem pss_shutU {X : Cx} {st : List Stmt} {t : TS} (h : PSs X st t) : PSs X st (tShutU X.prog X.w t) := by
  refine ⟨fun pins s σ H D I hw => ?_⟩
  refine thn (h.run pins s σ _ _ I hw) fun f s1 q => ?_
  cases f with
  | next => obtain ⟨_, _, _, z⟩ := q; exact z.elim
  | brk => obtain ⟨_, _, _, z⟩ := q; exact z.elim
  | cont => obtain ⟨_, _, _, z⟩ := q; exact z.elim
  | ret v =>
    obtain ⟨x, σ', H', I2, r, c, l, tm, cs, T, rfl, e1, e2, t0, t1, g, hcl, z⟩ := q
    exact ⟨_, σ', _, closeU I2 e1 e2 t0 t1 g hcl, r, z⟩
/-! ### a list made turn by turn, the urn asked at each turn -/
/-- all but lists and what is told by ext stays -/
def Exd (H H' : Hp) : Prop := ∀ a o, noExt o = true → (∀ xs, o ≠ .lst xs) → H a = some o → H' a = some o
theorem Exd.of {H H' : Hp} (e : Exn H H') : Exd H H' := fun a o z _ h => e a o z h
theorem Exd.exl {H H' : Hp} (e : Exl H H') : Exd H H' := fun a o _ n h => e a o n h
theorem Exd.trans {H H1 H2 : Hp} (a : Exd H H1) (b : Exd H1 H2) : Exd H H2 := fun x o z n h => b x o z n (a x o z n h)
section
variable {P : Program} {w : World} {te : TE} {vs : List Nat} {σ : L2.St} {H1 : Hp} {D c l : Addr} {T : Nat} {Qd : Hp → Prop} {j : Nat}
theorem made_rangeD {n : Nat} (m : Nat) (M : Nat → V → Hp → Prop) (C : UrnAt P w H1 c l T) (hD : H1 D = none) (hn : n < 100000) (st : ∀ i v G G', Exd G G' → M i v G → M i v G')
    (hw : ∀ x, wipe ((wipe σ vs).set j (some x)) vs = wipe σ vs)
    (he : ∀ i : Nat, i < n → ∀ H', Ed P w c l (T + i * m) H1 H' → ∀ Q : VK, (∀ v H2, Ed P w c l (T + i * m + m) H' H2 → M i v H2 → Q v H2) → te ((wipe σ vs).set j (some (.int (i : Int)))) H' Q)
    (hd : ∀ (ys : List V) H', ys.length = n → Ed P w c l (T + n * m) H1 H' → H' D = some (.lst ys) → (∀ (k : Nat) (v : V), ys[k]? = some v → M k v H') → Qd H') :
    ∃ W : Nat → Nat → Hp → Prop, (∃ m, W 0 m (upd H1 D (.lst []))) ∧ ∀ i m H, W i m H →
      ((Itr 0 n).stop i H ∧ Qd H) ∨ ((Itr 0 n).go i H ∧ ∃ Nx : Hp → Prop, (∀ H', Nx H' → ∃ m', m' < m ∧ W (i + 1) m' H') ∧ ∀ x H', (Itr 0 n).yld i H x H' → gName j x (wipe σ vs) H' fun σ2 H2 => wipe σ2 vs = wipe σ vs ∧ tYes σ2 H2 fun b H3 =>
        if b = true then te σ2 H3 fun y H4 => ∃ acc, H4 D = some (.lst acc) ∧ acc.length < sizeLine ∧ Nx (upd H4 D (.lst (acc ++ [y]))) else Nx H3) := by
  refine lc_range (lo := 0) (n := n) (fun i H' => ∃ ys : List V, ys.length = i ∧ Ed P w c l (T + i * m) H1 H' ∧ H' D = some (.lst ys) ∧ ∀ (k : Nat) (v : V), ys[k]? = some v → M k v H') ?_ ?_ ?_
  · refine ⟨[], rfl, ?_, upd_same, fun k v z => by simp at z⟩
    rw [Nat.zero_mul]
    exact C.of (Evl.Ex.new hD)
  · rintro i H' hi ⟨ys, hl, e, hy, hm⟩
    have e0 : (0 : Int) + (i : Int) = (i : Int) := Int.zero_add _
    show wipe ((wipe σ vs).set j (some (.int (0 + (i : Int))))) vs = wipe σ vs ∧ tYes ((wipe σ vs).set j (some (.int (0 + (i : Int))))) H' _
    rw [e0]
    refine ⟨hw _, yesT (he i hi H' e _ fun v H2 e2 hv => ?_)⟩
    have g : Exd H2 (upd H2 D (.lst (ys ++ [v]))) := Exd.exl (Exl.grow (e2.sq hy))
    refine ⟨ys, e2.sq hy, by rw [hl]; exact Evl.sz_lt (by omega), ys ++ [v], by simp [hl], ?_, upd_same, fun k u hk => ?_⟩
    · have := Ed.mut (o := .lst (ys ++ [v])) (e.trans e2) hD
      rwa [show T + i * m + m = T + (i + 1) * m by rw [Nat.add_mul, Nat.one_mul, Nat.add_assoc]] at this
    · by_cases hk2 : k < ys.length
      · rw [List.getElem?_append_left hk2] at hk
        exact st k u H' _ ((Exd.of e2.keep).trans g) (hm k u hk)
      · have hz := (List.getElem?_eq_some_iff.mp hk).1
        have ek : k = i := by simp at hz; omega
        subst ek
        rw [List.getElem?_append_right (by omega), hl] at hk
        simp at hk
        subst hk
        exact st k v H2 _ g hv
  · rintro H' ⟨ys, hl, e, hy, hm⟩
    exact hd ys H' hl e hy hm
end
end Lr

namespace Lr
open PySem L2
/-- data: a list of ints -/
theorem dp_ints (K : PySem.W.Frag) (H : Hp) : ∀ ds : List Int, DpAll K H (ds.map V.int) (ds.map PyData.int)
  | [] => .nil
  | x :: r => .cons (.int x) (dp_ints K H r)
theorem lay_ints : ∀ ds : List Int, PyData.canLayAll0 (ds.map PyData.int) = true
  | [] => by simp [PyData.canLayAll0]
  | x :: r => by simp [PyData.canLayAll0, PyData.canLay0, lay_ints r]
theorem depth_ints : ∀ ds : List Int, PyData.depthAll (ds.map PyData.int) ≤ 1
  | [] => by simp [PyData.depthAll]
  | x :: r => by
    have := depth_ints r
    simp [PyData.depthAll, PyData.depth]
    omega
theorem shaped_ints (ds : List Int) : SeqAt.shaped (.list (ds.map PyData.int)) = true := by
  have h1 := depth_ints ds
  have h2 : (PyData.list (ds.map PyData.int)).depth ≤ 64 := by
    simp only [PyData.depth]
    omega
  have h3 : (PyData.list (ds.map PyData.int)).canLay0 = true := by
    simp only [PyData.canLay0]
    exact lay_ints ds
  unfold SeqAt.shaped
  rw [h3, decide_eq_true h2]
  rfl
theorem eqv_nil (ds : List Int) : PyData.eqv (.list (ds.map .int)) (.list []) = ds.isEmpty := by
  cases ds <;> simp [PyData.eqv, PyData.eqvAll]
/-- 0, 1, .. below n -/
def upto (n : Nat) : List Int := (List.range n).map Int.ofNat
theorem upto_len (n : Nat) : (upto n).length = n := by unfold upto; simp
theorem mem_upto {n : Nat} {x : Int} : x ∈ upto n ↔ 0 ≤ x ∧ x < n := by
  unfold upto
  simp only [List.mem_map, List.mem_range]
  constructor
  · rintro ⟨k, hk, rfl⟩
    exact ⟨Int.ofNat_nonneg _, by simpa using hk⟩
  · rintro ⟨h0, h1⟩
    exact ⟨x.toNat, by omega, by simp; omega⟩
theorem rgV_upto {n : Int} : rgV 0 n = (upto n.toNat).map V.int := by
  unfold rgV upto
  simp [List.map_map]
theorem erase_map {α β : Type} (f : α → β) : ∀ (l : List α) (i : Nat), (l.map f).eraseIdx i = (l.eraseIdx i).map f
  | [], _ => by simp
  | _ :: _, 0 => by simp
  | x :: r, i + 1 => by simp [erase_map f r i]
theorem erase_perm : ∀ (l : List Int) (i : Nat) (h : i < l.length), (l[i] :: l.eraseIdx i).Perm l
  | x :: r, 0, _ => by simp
  | x :: r, i + 1, h => by
    have h2 : i < r.length := by simpa using h
    simp only [List.getElem_cons_succ, List.eraseIdx_cons_succ]
    exact (List.Perm.swap x r[i] (r.eraseIdx i)).trans ((erase_perm r i h2).cons x)
theorem pick {rs : List Int} {r : Int} (h0 : 0 ≤ r) (h1 : r < (rs.length : Int)) : ∃ x, (rs.map V.int)[r.toNat]? = some (.int x) ∧ (rs.map V.int).eraseIdx r.toNat = (rs.eraseIdx r.toNat).map V.int ∧ (x :: rs.eraseIdx r.toNat).Perm rs ∧ seqIndex? r (rs.map V.int).length = some r.toNat := by
  have hr : r.toNat < rs.length := by omega
  refine ⟨rs[r.toNat], by rw [List.getElem?_map, List.getElem?_eq_getElem hr]; rfl, erase_map _ _ _, erase_perm rs _ hr, ?_⟩
  have h2 : ¬ r < 0 := by omega
  simp [seqIndex?, h0, h1, h2]
/-- a rule, as lists of numbers and as data -/
def RuleOk (n : Nat) (ps : List (List Int)) : Prop := 1 ≤ n ∧ ps.length = n + 1 ∧ ∀ p ∈ ps, p.Perm (upto n)
def prefD (p : List Int) : PyData := .tuple (p.map .int)
def ruleD (ps : List (List Int)) : PyData := .tuple (ps.map prefD)
/-- a preference of n lanes stands at v -/
def PrefAt (n : Nat) (v : V) (H : Hp) : Prop := ∃ (a : Addr) (ns : List Int), v = .ref a ∧ Ti H a (ns.map V.int) ∧ ns.Perm (upto n)
theorem Ti.exl {a : Addr} {xs : List V} {H H' : Hp} (e : Exl H H') (h : Ti H a xs) : Ti H' a xs := by obtain ⟨o, h, d⟩ := h; exact ⟨o, e _ _ frz_nolst h, d⟩
theorem Ti.exd {a : Addr} {xs : List V} {H H' : Hp} (e : Exd H H') (h : Ti H a xs) : Ti H' a xs := by obtain ⟨o, h, d⟩ := h; exact ⟨o, e _ _ rfl frz_nolst h, d⟩
theorem PrefAt.exl {n : Nat} {v : V} {H H' : Hp} (e : Exl H H') (h : PrefAt n v H) : PrefAt n v H' := by
  obtain ⟨a, ns, rfl, h1, h2⟩ := h
  exact ⟨a, ns, rfl, h1.exl e, h2⟩
theorem PrefAt.ex {n : Nat} {v : V} {H H' : Hp} (e : Ex H H') (h : PrefAt n v H) : PrefAt n v H' := h.exl (Exl.of e)
/-- a rule stands at v -/
def RuleAt (n : Nat) (ps : List (List Int)) (H : Hp) (v : V) : Prop := RuleOk n ps ∧ ∃ (ra : Addr) (xs : List V), v = .ref ra ∧ H ra = some (.tup xs) ∧ xs.length = n + 1 ∧
  ∀ (k : Nat) (x : V), xs[k]? = some x → ∃ (a : Addr) (pn : List Int), x = .ref a ∧ ps[k]? = some pn ∧ Ti H a (pn.map V.int)
theorem prefs_of {n : Nat} {H : Hp} : ∀ {xs : List V}, (∀ v ∈ xs, PrefAt n v H) → ∃ ps : List (List Int), ps.length = xs.length ∧ (∀ p ∈ ps, p.Perm (upto n)) ∧ ∀ (k : Nat) (x : V), xs[k]? = some x → ∃ (a : Addr) (pn : List Int), x = .ref a ∧ ps[k]? = some pn ∧ Ti H a (pn.map V.int)
  | [], _ => ⟨[], rfl, fun _ z => (nomatch z), fun k x h => by simp at h⟩
  | x :: r, h => by
    obtain ⟨a, ns, rfl, h1, h2⟩ := h x (by simp)
    obtain ⟨ps, p1, p2, p3⟩ := prefs_of (xs := r) fun v hv => h v (by simp [hv])
    refine ⟨ns :: ps, by simp [p1], fun p hp => ?_, fun k x hk => ?_⟩
    · rcases List.mem_cons.mp hp with rfl | hp
      · exact h2
      · exact p2 p hp
    · cases k with
      | zero => simp at hk; subst hk; exact ⟨a, ns, rfl, rfl, h1⟩
      | succ k => obtain ⟨b, pn, q1, q2, q3⟩ := p3 k x (by simpa using hk); exact ⟨b, pn, q1, by simpa using q2, q3⟩
/-- a tuple of so many of them is a rule -/
theorem rule_at {n : Nat} {H : Hp} {p : Addr} {xs : List V} (hn : 1 ≤ n) (hp : H p = some (.tup xs)) (hl : xs.length = n + 1) (h : ∀ v ∈ xs, PrefAt n v H) : ∃ ps, RuleAt n ps H (.ref p) := by
  obtain ⟨ps, p1, p2, p3⟩ := prefs_of h
  exact ⟨ps, ⟨hn, p1.trans hl, p2⟩, p, xs, rfl, hp, hl, p3⟩
theorem dv_of {H : Hp} : ∀ {xs : List V} {ps : List (List Int)}, xs.length = ps.length → (∀ (k : Nat) (x : V), xs[k]? = some x → ∃ (a : Addr) (pn : List Int), x = .ref a ∧ ps[k]? = some pn ∧ Ti H a (pn.map V.int)) → DvAll H xs (ps.map prefD)
  | [], [], _, _ => .nil
  | [], _ :: _, h, _ => by simp at h
  | _ :: _, [], h, _ => by simp at h
  | x :: r, p :: t, hl, h => by
    obtain ⟨a, pn, rfl, h2, h3⟩ := h 0 x rfl
    simp at h2
    subst h2
    exact .cons (h3.dv (dv_ints H p)) (dv_of (by simpa using hl) fun k x hk => by
      obtain ⟨b, pn, q1, q2, q3⟩ := h (k + 1) x (by simpa using hk)
      exact ⟨b, pn, q1, by simpa using q2, q3⟩)
section
variable {n : Nat} {ps : List (List Int)} {H H' : Hp} {v : V}
theorem RuleAt.dv (h : RuleAt n ps H v) : Dv H v (ruleD ps) := by
  obtain ⟨r, ra, xs, rfl, h1, h2, h3⟩ := h
  exact .tup h1 (dv_of (h2.trans r.2.1.symm) h3)
theorem RuleAt.exn (h : RuleAt n ps H v) (e : Exn H H') : RuleAt n ps H' v := by
  obtain ⟨r, ra, xs, rfl, h1, h2, h3⟩ := h
  refine ⟨r, ra, xs, rfl, e _ _ rfl h1, h2, fun k x hk => ?_⟩
  obtain ⟨a, pn, q1, q2, q3⟩ := h3 k x hk
  exact ⟨a, pn, q1, q2, q3.exn e⟩
theorem RuleAt.ex (h : RuleAt n ps H v) (e : Ex H H') : RuleAt n ps H' v := h.exn fun a o _ q => e a o q
theorem RuleAt.ed {P : Program} {w : World} {c l : Addr} {T : Nat} (h : RuleAt n ps H v) (e : Ed P w c l T H H') : RuleAt n ps H' v := h.exn e.keep
/-- the tuple itself, and its k-th preference -/
theorem RuleAt.get (h : RuleAt n ps H v) : ∃ (ra : Addr) (xs : List V), v = .ref ra ∧ H ra = some (.tup xs) ∧ xs.length = n + 1 ∧ ∀ k : Nat, k < n + 1 → ∃ (a : Addr) (pn : List Int), xs[k]? = some (.ref a) ∧ ps[k]? = some pn ∧ Ti H a (pn.map V.int) ∧ pn.Perm (upto n) := by
  obtain ⟨r, ra, xs, rfl, h1, h2, h3⟩ := h
  refine ⟨ra, xs, rfl, h1, h2, fun k hk => ?_⟩
  have lt : k < xs.length := by omega
  obtain ⟨a, pn, q1, q2, q3⟩ := h3 k xs[k] (List.getElem?_eq_getElem lt)
  exact ⟨a, pn, by rw [List.getElem?_eq_getElem lt, q1], q2, q3, r.2.2 pn (List.mem_of_getElem? q2)⟩
end
theorem turn_perm {n k : Nat} : ((upto n).drop k ++ (upto n).take k).Perm (upto n) := by
  have h := List.perm_append_comm (l₁ := (upto n).drop k) (l₂ := (upto n).take k)
  rw [List.take_append_drop] at h
  exact h
theorem end_perm {ns : List Int} {n : Nat} {k : Int} (h : ns.Perm (upto n)) (h0 : 0 ≤ k) (h1 : k < n) : (ns.filter (fun x => !decide (x = k)) ++ [k]).Perm (upto n) := by
  refine List.Perm.trans ?_ h
  have hk : k ∈ ns := h.mem_iff.mpr (mem_upto.mpr ⟨h0, h1⟩)
  have nd : ns.Nodup := h.nodup_iff.mpr (by
    unfold upto
    exact List.Pairwise.map _ (fun a b hab z => hab (Int.ofNat.inj z)) List.nodup_range)
  have e : ns.filter (fun x => !decide (x = k)) = ns.erase k := by
    rw [nd.erase_eq_filter]
    congr 1
  rw [e]
  exact (List.perm_append_comm.trans (List.perm_cons_erase hk).symm)
theorem filt_int {ns : List Int} {k : Int} : (ns.map V.int).filter (fun v => !decide (v = .int k)) = (ns.filter (fun x => !decide (x = k))).map V.int := by
  induction ns with
  | nil => rfl
  | cons x r ih =>
    by_cases hx : x = k
    · subst hx
      simp [ih]
    · have : ¬ V.int x = V.int k := fun z => hx (V.int.inj z)
      simp [hx, ih]
/-- numbers of some lanes -/
def InLanes (n : Nat) (ns : List Int) : Prop := ∀ x ∈ ns, 0 ≤ x ∧ x < n
theorem PrefAt.exd {n : Nat} {v : V} {H H' : Hp} (e : Exd H H') (h : PrefAt n v H) : PrefAt n v H' := by
  obtain ⟨a, ns, rfl, h1, h2⟩ := h
  exact ⟨a, ns, rfl, h1.exd e, h2⟩
theorem PrefAt.ed {P : Program} {w : World} {c l : Addr} {T n : Nat} {v : V} {H H' : Hp} (e : Ed P w c l T H H') (h : PrefAt n v H) : PrefAt n v H' := h.exd (Exd.of e.keep)
end Lr

namespace Lr
open PySem L2
/-! ### where a number stands first -/
def pos : List Int → Int → Nat
  | [], _ => 0
  | x :: r, c => if x = c then 0 else pos r c + 1
theorem pos_cons (x : Int) (r : List Int) (c : Int) : pos (x :: r) c = if x = c then 0 else pos r c + 1 := rfl
theorem pos_get : ∀ {l : List Int} {c : Int}, c ∈ l → l[pos l c]? = some c
  | x :: r, c, h => by
    unfold pos
    by_cases q : x = c
    · rw [if_pos q, q]; rfl
    · rw [if_neg q]
      rcases List.mem_cons.mp h with z | z
      · exact absurd z.symm q
      · simpa using pos_get z
theorem pos_no : ∀ {l : List Int} {c : Int} {m : Nat}, m < pos l c → l[m]? ≠ some c
  | [], c, m, h => by simp [pos] at h
  | x :: r, c, m, h => by
    unfold pos at h
    by_cases q : x = c
    · rw [if_pos q] at h; omega
    · rw [if_neg q] at h
      cases m with
      | zero => simp; exact q
      | succ m => simpa using pos_no (l := r) (c := c) (m := m) (by omega)
theorem pos_lt {l : List Int} {c : Int} (h : c ∈ l) : pos l c < l.length := (List.getElem?_eq_some_iff.mp (pos_get h)).1
theorem pos_nd {l : List Int} {c : Int} {k : Nat} (nd : l.Nodup) (h : l[k]? = some c) : pos l c = k := by
  have hk := (List.getElem?_eq_some_iff.mp h)
  have hp := (List.getElem?_eq_some_iff.mp (pos_get (List.mem_of_getElem? h)))
  obtain ⟨hk1, hk2⟩ := hk
  obtain ⟨hp1, hp2⟩ := hp
  exact nd_inj nd hp1 hk1 (hp2.trans hk2.symm)
theorem mem_take : ∀ {l : List Int} {c : Int} {k : Nat}, c ∈ l.take k ↔ c ∈ l ∧ pos l c < k
  | [], c, k => by simp
  | x :: r, c, 0 => by simp
  | x :: r, c, k + 1 => by
    rw [List.take_succ_cons, List.mem_cons, List.mem_cons, mem_take (l := r) (c := c) (k := k)]
    rw [pos_cons]
    by_cases q : x = c
    · rw [if_pos q]
      constructor
      · intro _; exact ⟨.inl q.symm, by omega⟩
      · intro _; exact .inl q.symm
    · rw [if_neg q]
      constructor
      · rintro (z | ⟨z1, z2⟩)
        · exact absurd z.symm q
        · exact ⟨.inr z1, by omega⟩
      · rintro ⟨z | z, z2⟩
        · exact absurd z.symm q
        · exact .inr ⟨z, by omega⟩
theorem rgL_upto (n : Nat) : rgL 0 n = upto n := by
  unfold rgL upto
  apply List.map_congr_left
  intro i _
  simp
theorem upto_nd (n : Nat) : (upto n).Nodup := by
  unfold upto
  exact List.Pairwise.map _ (fun a b hab z => hab (Int.ofNat.inj z)) List.nodup_range
def lane (rs : List Int) (o : Int) : Int := rs.getD o.toNat 0
theorem lane_at {rs : List Int} {o : Int} (h0 : 0 ≤ o) (h1 : o < rs.length) : atI (rs.map V.int) o = some (.int (lane rs o)) := by
  have lt : o.toNat < rs.length := by omega
  have e : ((o.toNat : Nat) : Int) = o := by omega
  have := atI_nat (xs := rs.map V.int) (j := o.toNat) (v := .int (lane rs o)) (by
    rw [List.getElem?_map, List.getElem?_eq_getElem lt]
    unfold lane
    rw [List.getD_eq_getElem?_getD, List.getElem?_eq_getElem lt]
    rfl)
  rwa [e] at this
/-! ### sorted lists of ints -/
def srt (cs : List Int) : List Int := cs.mergeSort fun a b => decide (a ≤ b)
theorem srt_perm (cs : List Int) : (srt cs).Perm cs := List.mergeSort_perm _ _
theorem srt_le (cs : List Int) : (srt cs).Pairwise (· ≤ ·) := by
  have := List.pairwise_mergeSort (le := fun a b : Int => decide (a ≤ b)) (fun a b c h1 h2 => by simp at *; omega) (fun a b => by simp; omega) cs
  exact this.imp fun h => by simpa using h
theorem le_uniq {as bs : List Int} (p : as.Perm bs) (a : as.Pairwise (· ≤ ·)) (b : bs.Pairwise (· ≤ ·)) : as = bs := p.eq_of_pairwise (le := (· ≤ ·)) (fun x y _ _ h1 h2 => Int.le_antisymm h1 h2) a b
theorem srt_eq {cs ys : List Int} (p : ys.Perm cs) (h : ys.Pairwise (· ≤ ·)) : ys = srt cs := le_uniq (p.trans (srt_perm cs).symm) h (srt_le cs)
theorem cr_sortL {X : Cx} {K : PySem.W.Frag} (hK : X.K = K) : CallR X (.builtin "sorted") (rSorted K) := by
  subst hK
  exact cr_sorted
theorem inV_ints (c : Int) (xs : List Int) : inV (.int c) (xs.map V.int) = decide (c ∈ xs) := by
  unfold inV
  rw [List.any_map]
  induction xs with
  | nil => simp
  | cons x r ih =>
    simp only [List.any_cons, ih, List.mem_cons, Function.comp]
    show (x == c || decide (c ∈ r)) = _
    by_cases h : x = c
    · simp [h]
    · have : ¬ c = x := fun z => h z.symm
      simp [h, this]
/-! ### which lane goes before -/
def gb (pn : List Int) (x y : Int) : Bool := decide (x ≠ y) && decide (pos pn x < pos pn y)
theorem fore_of : ∀ {pn : List Int} {x y : Int}, x ∈ pn → y ∈ pn → x ≠ y → ∃ z rest, pn.filter (fun c => decide (c ∈ [x, y])) = z :: rest ∧ decide (z = x) = decide (pos pn x < pos pn y)
  | c :: r, x, y, hx, hy, hne => by
    by_cases h1 : c = x
    · subst h1
      refine ⟨c, _, List.filter_cons_of_pos (by simp), ?_⟩
      rw [pos_cons, pos_cons, if_pos rfl, if_neg hne]
      simp
    · by_cases h2 : c = y
      · subst h2
        refine ⟨c, _, List.filter_cons_of_pos (by simp), ?_⟩
        rw [pos_cons, pos_cons, if_pos rfl, if_neg h1]
        simp [h1]
      · obtain ⟨z, rest, h3, h4⟩ := fore_of (pn := r) (x := x) (y := y) (by rcases List.mem_cons.mp hx with q | q; exact absurd q.symm h1; exact q) (by rcases List.mem_cons.mp hy with q | q; exact absurd q.symm h2; exact q) hne
        refine ⟨z, rest, ?_, ?_⟩
        · rw [List.filter_cons_of_neg (by simp [h1, h2])]
          exact h3
        · rw [h4, pos_cons, pos_cons, if_neg h1, if_neg h2]
          simp
/-! ### the first cars of the lanes -/
def fstc (rs : List Int) : List Int → List Int → List Int
  | _, [] => []
  | seen, c :: t => if lane rs c ∈ seen then fstc rs seen t else c :: fstc rs (seen ++ [lane rs c]) t
theorem fstc_mem {rs : List Int} : ∀ {cs seen : List Int} {o : Int}, cs.Pairwise (· < ·) → (o ∈ fstc rs seen cs ↔ o ∈ cs ∧ lane rs o ∉ seen ∧ ∀ p ∈ cs, p < o → lane rs p ≠ lane rs o)
  | [], seen, o, _ => by simp [fstc]
  | c :: t, seen, o, hs => by
    obtain ⟨hc, ht⟩ := List.pairwise_cons.mp hs
    unfold fstc
    by_cases h : lane rs c ∈ seen
    · rw [if_pos h, fstc_mem ht]
      constructor
      · rintro ⟨h1, h2, h3⟩
        refine ⟨List.mem_cons_of_mem _ h1, h2, fun p hp hpo => ?_⟩
        rcases List.mem_cons.mp hp with rfl | hp
        · exact fun z => h2 (z ▸ h)
        · exact h3 p hp hpo
      · rintro ⟨h1, h2, h3⟩
        rcases List.mem_cons.mp h1 with rfl | h1
        · exact absurd h h2
        · exact ⟨h1, h2, fun p hp hpo => h3 p (List.mem_cons_of_mem _ hp) hpo⟩
    · rw [if_neg h, List.mem_cons, fstc_mem ht]
      constructor
      · rintro (rfl | ⟨h1, h2, h3⟩)
        · refine ⟨List.mem_cons_self, h, fun p hp hpo => ?_⟩
          rcases List.mem_cons.mp hp with rfl | hp
          · omega
          · have := hc p hp; omega
        · simp only [List.mem_append, List.mem_singleton, not_or] at h2
          refine ⟨List.mem_cons_of_mem _ h1, h2.1, fun p hp hpo => ?_⟩
          rcases List.mem_cons.mp hp with rfl | hp
          · exact fun z => h2.2 z.symm
          · exact h3 p hp hpo
      · rintro ⟨h1, h2, h3⟩
        rcases List.mem_cons.mp h1 with rfl | h1
        · exact .inl rfl
        · refine .inr ⟨h1, ?_, fun p hp hpo => h3 p (List.mem_cons_of_mem _ hp) hpo⟩
          simp only [List.mem_append, List.mem_singleton, not_or]
          exact ⟨h2, fun z => h3 c List.mem_cons_self (hc o h1) z.symm⟩
theorem fstc_sub {rs : List Int} : ∀ {cs seen : List Int}, (fstc rs seen cs).Sublist cs
  | [], _ => by simp [fstc]
  | c :: t, seen => by
    unfold fstc
    by_cases h : lane rs c ∈ seen
    · rw [if_pos h]; exact (fstc_sub (cs := t)).cons c
    · rw [if_neg h]; exact (fstc_sub (cs := t)).cons₂ c
/-- the first one with this lane -/
theorem first_lane_mem {rs : List Int} {L : Int} : ∀ {cs : List Int} {o : Int}, cs.Pairwise (· < ·) → (o ∈ (cs.filter fun c => decide (V.int (lane rs c) = V.int L)).take 1 ↔ o ∈ cs ∧ lane rs o = L ∧ ∀ p ∈ cs, p < o → lane rs p ≠ lane rs o)
  | [], o, _ => by simp
  | c :: t, o, hs => by
    obtain ⟨hc, ht⟩ := List.pairwise_cons.mp hs
    by_cases h : lane rs c = L
    · rw [List.filter_cons_of_pos (by simp [h]), List.take_succ_cons, List.take_zero, List.mem_singleton]
      constructor
      · rintro rfl
        refine ⟨List.mem_cons_self, h, fun p hp hpo => ?_⟩
        rcases List.mem_cons.mp hp with rfl | hp
        · omega
        · have := hc p hp; omega
      · rintro ⟨h1, h2, h3⟩
        rcases List.mem_cons.mp h1 with rfl | h1
        · rfl
        · exact absurd (h.trans h2.symm) (h3 c List.mem_cons_self (hc o h1))
    · rw [List.filter_cons_of_neg (by simp; exact h), first_lane_mem ht]
      constructor
      · rintro ⟨h1, h2, h3⟩
        refine ⟨List.mem_cons_of_mem _ h1, h2, fun p hp hpo => ?_⟩
        rcases List.mem_cons.mp hp with rfl | hp
        · exact fun z => h (z.trans h2)
        · exact h3 p hp hpo
      · rintro ⟨h1, h2, h3⟩
        rcases List.mem_cons.mp h1 with rfl | h1
        · exact absurd h2 h
        · exact ⟨h1, h2, fun p hp hpo => h3 p (List.mem_cons_of_mem _ hp) hpo⟩
theorem lt_of_srt {cs : List Int} (nd : cs.Nodup) : (srt cs).Pairwise (· < ·) := by
  have h1 := srt_le cs
  have h2 : (srt cs).Nodup := (srt_perm cs).nodup_iff.mpr nd
  exact h1.imp₂ (fun a b h3 h4 => by omega) h2
theorem nodup_fm {f : Int → List Int} : ∀ {l : List Int}, l.Nodup → (∀ a, (f a).Nodup) → (∀ a b o, a ≠ b → o ∈ f a → o ∈ f b → False) → (l.flatMap f).Nodup
  | [], _, _, _ => by simp
  | x :: r, nd, h1, h2 => by
    obtain ⟨hx, hr⟩ := List.nodup_cons.mp nd
    rw [List.flatMap_cons]
    refine List.nodup_append.mpr ⟨h1 x, nodup_fm hr h1 h2, fun a ha b hb hab => ?_⟩
    subst hab
    obtain ⟨y, hy, hy2⟩ := List.mem_flatMap.mp hb
    exact h2 x y a (fun z => hx (z ▸ hy)) ha hy2
/-- the rivals at a place: left are those that have not passed, x passes, pn is the preference -/
def rivs (rs pn left : List Int) (x : Int) : List Int := (fstc rs [] (srt left)).filter fun o => gb pn (lane rs o) (lane rs x)
def hereOf (rs pn left : List Int) (x : Int) : List Int := (pn.take (pos pn (lane rs x))).flatMap fun L => ((srt left).filter fun c => decide (V.int (lane rs c) = V.int L)).take 1
theorem rivs_here {rs pn left : List Int} {x : Int} (nd : left.Nodup) (np : pn.Nodup) (hl : ∀ o ∈ left, lane rs o ∈ pn) : (hereOf rs pn left x).Perm (rivs rs pn left x) := by
  have hlt := lt_of_srt nd
  have ns : (srt left).Nodup := (srt_perm left).nodup_iff.mpr nd
  refine (List.perm_ext_iff_of_nodup ?_ ?_).mpr fun o => ?_
  · exact nodup_fm ((List.take_sublist _ _).nodup np) (fun L => ((List.take_sublist _ _).trans List.filter_sublist).nodup ns) fun a b o hab ho ho2 => hab (((first_lane_mem hlt).mp ho).2.1.symm.trans ((first_lane_mem hlt).mp ho2).2.1)
  · unfold rivs
    exact (List.filter_sublist.trans fstc_sub).nodup ns
  · unfold hereOf rivs
    rw [List.mem_flatMap, List.mem_filter, fstc_mem hlt]
    constructor
    · rintro ⟨L, hL, ho⟩
      obtain ⟨h1, h2, h3⟩ := (first_lane_mem hlt).mp ho
      obtain ⟨g1, g2⟩ := mem_take.mp hL
      subst h2
      refine ⟨⟨h1, List.not_mem_nil, h3⟩, ?_⟩
      unfold gb
      rw [Bool.and_eq_true]
      exact ⟨decide_eq_true (fun z => by rw [z] at g2; omega), decide_eq_true g2⟩
    · rintro ⟨⟨h1, _, h3⟩, h4⟩
      unfold gb at h4
      rw [Bool.and_eq_true] at h4
      have hin := hl o ((srt_perm left).mem_iff.mp h1)
      exact ⟨lane rs o, mem_take.mpr ⟨hin, of_decide_eq_true h4.2⟩, (first_lane_mem hlt).mpr ⟨h1, rfl, h3⟩⟩
theorem rivs_le {rs pn left : List Int} {x : Int} : (rivs rs pn left x).Pairwise (· ≤ ·) := List.Pairwise.sublist (List.filter_sublist.trans fstc_sub) (srt_le left)
end Lr

namespace Lr
open PySem L2
/-! ### how long a text shows it, how deep it is -/
structure Sh (m k : Nat) (d : PyData) : Prop where
  sh : d.showable = true
  len : d.shown.length ≤ m
  dep : d.depth ≤ k
theorem Sh.mono {m k m' k' : Nat} {d : PyData} (h : Sh m k d) (hm : m ≤ m') (hk : k ≤ k') : Sh m' k' d := ⟨h.sh, Nat.le_trans h.len hm, Nat.le_trans h.dep hk⟩
theorem Sh.fit {m k : Nat} {d : PyData} (h : Sh m k d) (hm : m ≤ 1000000) (hk : k ≤ 60) : Fit d := ⟨h.sh, Nat.le_trans h.len (Nat.le_trans hm (by decide)), Nat.le_trans h.dep hk⟩
theorem sh_all {m k : Nat} : ∀ {es : List PyData}, (∀ e ∈ es, Sh m k e) → PyData.showableAll es = true ∧ ((PyData.shownAll es).map (·.length)).sum ≤ m * es.length ∧ PyData.depthAll es ≤ k
  | [], _ => by simp [PyData.showableAll, PyData.shownAll, PyData.depthAll]
  | x :: r, h => by
    obtain ⟨a, b, c⟩ := sh_all (es := r) fun y hy => h y (by simp [hy])
    have hx := h x (by simp)
    have h1 := hx.len
    have h2 := hx.dep
    refine ⟨by simp [PyData.showableAll, hx.sh, a], ?_, by simp only [PyData.depthAll]; omega⟩
    simp only [List.map_cons, PyData.shownAll, List.sum_cons, List.length_cons, Nat.mul_add, Nat.mul_one]
    omega
theorem sh_tup {m k c : Nat} {es : List PyData} (h : ∀ e ∈ es, Sh m k e) (hc : es.length ≤ c) : Sh (c * (m + 2) + 3) (k + 1) (.tuple es) := by
  obtain ⟨a, b, e⟩ := sh_all h
  refine ⟨by simpa [PyData.showable] using a, ?_, by simp only [PyData.depth]; omega⟩
  simp only [PyData.shown]
  have t := tupleText_len_le (PyData.shownAll es)
  rw [PyData.shownAll_length] at t
  have q : m * es.length + 2 * es.length ≤ c * (m + 2) := by
    rw [← Nat.add_mul, Nat.mul_comm, Nat.add_comm m 2, Nat.add_comm 2 m]
    exact Nat.mul_le_mul_right _ hc
  omega
theorem sh_lst {m k c : Nat} {es : List PyData} (h : ∀ e ∈ es, Sh m k e) (hc : es.length ≤ c) : Sh (c * (m + 2) + 3) (k + 1) (.list es) := by
  obtain ⟨a, b, e⟩ := sh_all h
  refine ⟨by simpa [PyData.showable] using a, ?_, by simp only [PyData.depth]; omega⟩
  simp only [PyData.shown]
  have t := listText_len_le (PyData.shownAll es)
  rw [PyData.shownAll_length] at t
  have q : m * es.length + 2 * es.length ≤ c * (m + 2) := by
    rw [← Nat.add_mul, Nat.mul_comm, Nat.add_comm m 2, Nat.add_comm 2 m]
    exact Nat.mul_le_mul_right _ hc
  omega
theorem small_show {i : Int} (h : i.natAbs < 10 ^ 12) : (PyData.int i).showable = true := by
  simp only [PyData.showable, decide_eq_true_eq]
  have h1 : i.natAbs < 2 ^ 40 := Nat.lt_trans h (by decide)
  have := PySem.Flt.log2_lt_of (k := 40) (by decide) h1
  omega
theorem int_sh {i : Int} (h : i.natAbs < 10 ^ 12) : Sh 20 0 (.int i) := ⟨small_show h, Nat.le_trans (PyData.shown_int_le h) (by decide), by simp [PyData.depth]⟩
theorem bool_sh (b : Bool) : Sh 20 0 (.bool b) := by
  cases b <;> exact ⟨by decide +kernel, by decide +kernel, by decide +kernel⟩
theorem two_fit {a d : PyData} (ha : Sh 100000 6 a) (hd : Sh 100000 6 d) : Fit (.list [a, d]) :=
  (sh_lst (es := [a, d]) (c := 2) (m := 100000) (k := 6) (fun e he => by
    simp only [List.mem_cons, List.not_mem_nil, or_false] at he
    rcases he with rfl | rfl
    · exact ha
    · exact hd) (Nat.le_refl 2)).fit (by decide) (by decide)
theorem ints_sh {ns : List Int} {c : Nat} (h : ∀ x ∈ ns, x.natAbs < 10 ^ 12) (hc : ns.length ≤ c) : Sh (c * 22 + 3) 1 (.tuple (ns.map .int)) := sh_tup (m := 20) (k := 0) (fun e he => by
  obtain ⟨x, hx, rfl⟩ := List.mem_map.mp he
  exact int_sh (h x hx)) (by rw [List.length_map]; exact hc)
/-! ### what is old stays, but for the urn -/
structure Es (H H' : Hp) : Prop where
  keep : Exn H H'
  back : ∀ a, H' a = none → H a = none
theorem Es.of {H H' : Hp} (e : Ex H H') : Es H H' := ⟨fun a o _ h => e a o h, fun _ h => Evl.fresh_back e h⟩
theorem Es.trans {H H1 H2 : Hp} (a : Es H H1) (b : Es H1 H2) : Es H H2 := ⟨fun x o z h => b.keep x o z (a.keep x o z h), fun x h => a.back x (b.back x h)⟩
theorem Es.ex {H H1 H2 : Hp} (a : Es H H1) (b : Ex H1 H2) : Es H H2 := a.trans (.of b)
theorem Ed.es {P : Program} {w : World} {c l : Addr} {T : Nat} {H H' : Hp} (e : Ed P w c l T H H') : Es H H' := ⟨e.keep, e.back⟩
theorem Exn.of {H H' : Hp} (e : Ex H H') : Exn H H' := fun a o _ h => e a o h
theorem Exn.trans {H H1 H2 : Hp} (a : Exn H H1) (b : Exn H1 H2) : Exn H H2 := fun x o z h => b x o z (a x o z h)
/-- what is new since H, and what was known in B -/
def mix (B H H' : Hp) : Hp := fun a => if H a = none then H' a else B a
section
variable {B B0 H0 H H' : Hp}
theorem mix_new {p : Addr} {o : HO} (h : H p = none) (h2 : H' p = some o) : mix B H H' p = some o := by
  unfold mix
  rw [if_pos h]
  exact h2
theorem mix_mono (e : Exn H H') : Exn (mix B0 H0 H) (mix B0 H0 H') := fun a o z h => by
  unfold mix at h ⊢
  by_cases q : H0 a = none
  · rw [if_pos q] at h ⊢
    exact e a o z h
  · rw [if_neg q] at h ⊢
    exact h
theorem mix_at (b : Ex B0 H0) (e0 : Es H0 H) : Exn (mix B0 H0 H) H := fun a o z h => by
  unfold mix at h
  by_cases q : H0 a = none
  · rw [if_pos q] at h
    exact h
  · rw [if_neg q] at h
    exact e0.keep a o z (b a o h)
theorem mix_base (b : Ex B0 H0) : Ex B0 (mix B0 H0 H) := fun a o h => by
  unfold mix
  rw [if_neg (by rw [b a o h]; exact fun z => nomatch z)]
  exact h
/-- all but one place -/
def hid (D : Addr) (H : Hp) : Hp := fun a => if a = D then none else H a
theorem hid_upd {D : Addr} {o : HO} : hid D (upd H D o) = hid D H := by
  funext a
  unfold hid
  by_cases h : a = D
  · rw [if_pos h, if_pos h]
  · rw [if_neg h, if_neg h, upd_ne h]
theorem hid_mono {D : Addr} (e : Exn H H') : Exn (hid D H) (hid D H') := fun a o z h => by
  unfold hid at h ⊢
  by_cases q : a = D
  · rw [if_pos q] at h; cases h
  · rw [if_neg q] at h ⊢
    exact e a o z h
theorem hid_at {D : Addr} : Exn (hid D H) H := fun a o z h => by
  unfold hid at h
  by_cases q : a = D
  · rw [if_pos q] at h; cases h
  · rw [if_neg q] at h
    exact h
theorem mix_hid {D : Addr} (b : Ex B H) (e : Exn H H') (hB : B D = none) (hD : H D ≠ none) : Exn (mix B H H') (hid D H') := fun a o z h => by
  unfold mix at h
  unfold hid
  by_cases q : H a = none
  · rw [if_pos q] at h
    have : a ≠ D := fun y => hD (by rw [← y]; exact q)
    rw [if_neg this]
    exact h
  · rw [if_neg q] at h
    have : a ≠ D := fun y => by rw [y, hB] at h; cases h
    rw [if_neg this]
    exact e a o z (b a o h)
end
theorem tup_inv {H : Hp} {v : V} {ds : List PyData} (h : Dv H v (.tuple ds)) : ∃ a xs, v = .ref a ∧ Tu H a xs ∧ DvAll H xs ds := by
  cases h with
  | tup h t => exact ⟨_, _, rfl, .inl h, t⟩
  | tuf h t => exact ⟨_, _, rfl, .inr ⟨_, h⟩, t⟩
theorem np {σ : L2.St} {H : Hp} {Q : Option Int → Hp → Prop} (h : Q none H) : tNoPart σ H Q := h
theorem tn {σ : L2.St} {H : Hp} {Q : List V → Hp → Prop} (h : Q [] H) : tNil σ H Q := h
/-- a tuple of items that can be shown -/
def TA (m k c : Nat) (B : Hp) (v : V) : Prop := ∃ ds, Dv B v (.tuple ds) ∧ (∀ e ∈ ds, Sh m k e) ∧ ds.length ≤ c
theorem TA.mono {m k c : Nat} {B B' : Hp} {v : V} (h : TA m k c B v) (e : Exn B B') : TA m k c B' v := by
  obtain ⟨ds, a, b⟩ := h
  exact ⟨ds, a.exn e, b⟩
theorem TA.le {m k c c' : Nat} {B : Hp} {v : V} (h : TA m k c B v) (e : c ≤ c') : TA m k c' B v := by
  obtain ⟨ds, a, b, c⟩ := h
  exact ⟨ds, a, b, by omega⟩
/-- data that can be shown -/
def Da (m k : Nat) (B : Hp) (v : V) : Prop := ∃ d, Dv B v d ∧ Sh m k d
theorem Da.mono {m k : Nat} {B B' : Hp} {v : V} (h : Da m k B v) (e : Exn B B') : Da m k B' v := by
  obtain ⟨ds, a, b⟩ := h
  exact ⟨ds, a.exn e, b⟩
theorem TA.da {m k c m' k' : Nat} {B : Hp} {v : V} (h : TA m k c B v) (hm : c * (m + 2) + 3 ≤ m') (hk : k + 1 ≤ k') : Da m' k' B v := by
  obtain ⟨ds, a, b, hc⟩ := h
  exact ⟨_, a, (sh_tup b hc).mono hm hk⟩
section
variable {B0 H0 H H' : Hp} {K : PySem.W.Frag} {m k c c' : Nat} {v u : V} {Q : VK}
theorem dm_tup {p : Addr} {xs : List V} {ds : List PyData} (e0 : Es H0 H) (hp : H p = none) (h : DvAll (mix B0 H0 H) xs ds) : Dv (mix B0 H0 (upd H p (.tup xs))) (.ref p) (.tuple ds) :=
  .tup (mix_new (e0.back _ hp) upd_same) (h.exn (mix_mono (Exn.of (Evl.Ex.new hp))))
theorem dm_lst {p : Addr} {xs : List V} {ds : List PyData} (e0 : Es H0 H) (hp : H p = none) (h : DvAll (mix B0 H0 H) xs ds) : Dv (mix B0 H0 (upd H p (.lst xs))) (.ref p) (.list ds) :=
  .lst (mix_new (e0.back _ hp) upd_same) (h.exn (mix_mono (Exn.of (Evl.Ex.new hp))))
theorem dm_in {ds : List PyData} (b : Ex B0 H0) (e0 : Es H0 H) (h : Dv (mix B0 H0 H) v (.tuple ds)) : ∃ a xs, v = .ref a ∧ Tu H a xs ∧ DvAll (mix B0 H0 H) xs ds ∧ xs.length = ds.length := by
  obtain ⟨a, xs, rfl, h1, h2⟩ := tup_inv h
  exact ⟨a, xs, rfl, h1.exn (mix_at b e0), h2, h2.len⟩
theorem cat_ta (b : Ex B0 H0) (e0 : Es H0 H) (h1 : TA m k c (mix B0 H0 H) v) (h2 : TA m k c' (mix B0 H0 H) u) (hl : c + c' ≤ 100000) (q : ∀ x H', Ex H H' → TA m k (c + c') (mix B0 H0 H') x → Q x H') : rCatA K v u H Q := by
  obtain ⟨ds, a1, a2, a3⟩ := h1
  obtain ⟨es, b1, b2, b3⟩ := h2
  obtain ⟨a, xs, rfl, ha, hx, lx⟩ := dm_in b e0 a1
  obtain ⟨a', ys, rfl, hb, hy, ly⟩ := dm_in b e0 b1
  have all : ∀ e ∈ ds ++ es, Sh m k e := fun y hy => by
    rcases List.mem_append.mp hy with z | z
    · exact a2 y z
    · exact b2 y z
  refine ⟨a, a', xs, ys, rfl, rfl, ha.sq, hb.sq, Evl.sz_of (by omega), fun z => ?_, fun _ z => ?_, fun _ _ p hp => q _ _ (Evl.Ex.new hp) ⟨_, dm_tup e0 hp (hx.app hy), all, by simp; omega⟩⟩
  · exact q _ _ (Evl.Ex.refl _) ⟨es, b1, b2, by omega⟩
  · exact q _ _ (Evl.Ex.refl _) ⟨ds, a1, a2, by omega⟩
theorem sl_ta {lo hi : Option Int} (b : Ex B0 H0) (e0 : Es H0 H) (h1 : TA m k c (mix B0 H0 H) v) (q : ∀ x H', Ex H H' → TA m k c (mix B0 H0 H') x → Q x H') : rSlA K v lo hi H Q := by
  obtain ⟨ds, a1, a2, a3⟩ := h1
  obtain ⟨a, xs, rfl, ha, hx, lx⟩ := dm_in b e0 a1
  refine ⟨a, xs, rfl, ha.sq, fun _ => q _ _ (Evl.Ex.refl _) ⟨ds, a1, a2, a3⟩, fun _ p hp => q _ _ (Evl.Ex.new hp) ⟨_, dm_tup e0 hp ((hx.drop _).take _), fun e he => a2 e (List.mem_of_mem_drop (List.mem_of_mem_take he)), ?_⟩⟩
  rw [List.length_take, List.length_drop]
  omega
theorem tup1_ta {e : PyData} {p : Addr} (e0 : Es H0 H) (h : Dv (mix B0 H0 H) v e) (hv : Sh m k e) (hp : H p = none) : TA m k 1 (mix B0 H0 (upd H p (.tup [v]))) (.ref p) :=
  ⟨[e], dm_tup e0 hp (.cons h .nil), fun x z => by rcases List.mem_singleton.mp z with rfl; exact hv, Nat.le_refl _⟩
theorem pick_all {B : Hp} {xs : List V} {ds : List PyData} (h : DvAll B xs ds) (f : Nat → Nat) : ∀ l : List Nat, DvAll B (l.filterMap fun j => xs[f j]?) (l.filterMap fun j => ds[f j]?)
  | [] => .nil
  | j :: l => by
    cases q : xs[f j]? with
    | none =>
      have : ds[f j]? = none := by
        have := List.getElem?_eq_none_iff.mp q
        rw [h.len] at this
        exact List.getElem?_eq_none this
      rw [List.filterMap_cons_none (by rw [q]), List.filterMap_cons_none (by rw [this])]
      exact pick_all h f l
    | some x =>
      obtain ⟨d, h1, h2⟩ := h.get q
      rw [List.filterMap_cons_some (by rw [q]), List.filterMap_cons_some (by rw [h1])]
      exact .cons h2 (pick_all h f l)
theorem rev_ta (b : Ex B0 H0) (e0 : Es H0 H) (h1 : TA m k c (mix B0 H0 H) v) :
    ∃ (a : Addr) (xs : List V), v = .ref a ∧ Tu H a xs ∧ ∀ (f : Nat → Nat) (n : Nat) p, n ≤ xs.length → H p = none → TA m k c (mix B0 H0 (upd H p (.tup ((List.range n).filterMap fun j => xs[f j]?)))) (.ref p) := by
  obtain ⟨ds, a1, a2, a3⟩ := h1
  obtain ⟨a, xs, rfl, ha, hx, lx⟩ := dm_in b e0 a1
  refine ⟨a, xs, rfl, ha, fun f n p hn hp => ⟨_, dm_tup e0 hp (pick_all hx f _), fun e he => ?_, ?_⟩⟩
  · obtain ⟨j, _, hj⟩ := List.mem_filterMap.mp he
    exact a2 e (List.mem_of_getElem? hj)
  · refine Nat.le_trans (List.length_filterMap_le _ _) ?_
    rw [List.length_range]
    omega
theorem lst_ta (b : Ex B0 H0) (e0 : Es H0 H) (h1 : TA m k c (mix B0 H0 H) v) (q : ∀ x H', Ex H H' → Da (c * (m + 2) + 3) (k + 1) (mix B0 H0 H') x → Q x H') : rLstOf K [v] H Q := by
  obtain ⟨ds, a1, a2, a3⟩ := h1
  obtain ⟨a, xs, rfl, ha, hx, lx⟩ := dm_in b e0 a1
  exact ⟨a, xs, rfl, .inr (ha.sq), fun l hl => q _ _ (Evl.Ex.new hl) ⟨_, dm_lst e0 hl hx, sh_lst a2 a3⟩⟩
end
/-! ### a list made turn by turn whose items may hold lists; the urn asked at each turn -/
section
variable {P : Program} {w : World} {te : TE} {vs : List Nat} {σ : L2.St} {H1 : Hp} {D c l : Addr} {T : Nat} {Qd : Hp → Prop} {j : Nat}
theorem made_rangeX {n : Nat} (m : Nat) (M : Hp → V → Prop) (C : UrnAt P w H1 c l T) (hD : H1 D = none) (hn : n < 100000) (st : ∀ v G G', Exn G G' → M G v → M G' v)
    (hw : ∀ x, wipe ((wipe σ vs).set j (some x)) vs = wipe σ vs)
    (he : ∀ i : Nat, i < n → ∀ H', Ed P w c l (T + i * m) H1 H' → H' D ≠ none → ∀ Q : VK, (∀ v H2, Ed P w c l (T + i * m + m) H' H2 → M (hid D H2) v → Q v H2) → te ((wipe σ vs).set j (some (.int (i : Int)))) H' Q)
    (hd : ∀ (ys : List V) H', ys.length = n → Ed P w c l (T + n * m) H1 H' → H' D = some (.lst ys) → (∀ v ∈ ys, M (hid D H') v) → Qd H') :
    ∃ W : Nat → Nat → Hp → Prop, (∃ m, W 0 m (upd H1 D (.lst []))) ∧ ∀ i m H, W i m H →
      ((Itr 0 n).stop i H ∧ Qd H) ∨ ((Itr 0 n).go i H ∧ ∃ Nx : Hp → Prop, (∀ H', Nx H' → ∃ m', m' < m ∧ W (i + 1) m' H') ∧ ∀ x H', (Itr 0 n).yld i H x H' → gName j x (wipe σ vs) H' fun σ2 H2 => wipe σ2 vs = wipe σ vs ∧ tYes σ2 H2 fun b H3 =>
        if b = true then te σ2 H3 fun y H4 => ∃ acc, H4 D = some (.lst acc) ∧ acc.length < sizeLine ∧ Nx (upd H4 D (.lst (acc ++ [y]))) else Nx H3) := by
  refine lc_range (lo := 0) (n := n) (fun i H' => ∃ ys : List V, ys.length = i ∧ Ed P w c l (T + i * m) H1 H' ∧ H' D = some (.lst ys) ∧ ∀ v ∈ ys, M (hid D H') v) ?_ ?_ ?_
  · refine ⟨[], rfl, ?_, upd_same, fun v z => (nomatch z)⟩
    rw [Nat.zero_mul]
    exact C.of (Evl.Ex.new hD)
  · rintro i H' hi ⟨ys, hl, e, hy, hm⟩
    have e0 : (0 : Int) + (i : Int) = (i : Int) := Int.zero_add _
    show wipe ((wipe σ vs).set j (some (.int (0 + (i : Int))))) vs = wipe σ vs ∧ tYes ((wipe σ vs).set j (some (.int (0 + (i : Int))))) H' _
    rw [e0]
    refine ⟨hw _, yesT (he i hi H' e (by rw [hy]; exact fun z => nomatch z) _ fun v H2 e2 hv => ?_)⟩
    refine ⟨ys, e2.sq hy, by rw [hl]; exact Evl.sz_lt (by omega), ys ++ [v], by simp [hl], ?_, upd_same, fun u hu => ?_⟩
    · have := Ed.mut (o := .lst (ys ++ [v])) (e.trans e2) hD
      rwa [show T + i * m + m = T + (i + 1) * m by rw [Nat.add_mul, Nat.one_mul, Nat.add_assoc]] at this
    · rw [hid_upd]
      rcases List.mem_append.mp hu with q | q
      · exact st u _ _ (hid_mono e2.keep) (hm u q)
      · rcases List.mem_singleton.mp q with rfl
        exact hv
  · rintro H' ⟨ys, hl, e, hy, hm⟩
    exact hd ys H' hl e hy hm
end
end Lr

namespace Lr
open PySem L2
def topS (i : Nat) : Stmt := PySem.Challenge.pw_lanerules_k13_rivals_at_places.main.body.getD i (.Pass ⟨0, 0, 0, 0⟩)
abbrev sPull : Stmt := topS 24
abbrev nPull : List Str := ["_law_urn_here", "_law_many", "_law_turn", "_law_cells", "_law_seat", "_law_cell", "_law_mixed_here"]
theorem scPull : FnScope nPull ["_law_urn_here", "_law_many"] (defScope sPull) :=
  ⟨rfl, rfl, rfl, by decide +kernel, rfl, by decide +kernel, by decide +kernel⟩
abbrev sUrn : Stmt := topS 23
abbrev nUrn : List Str := ["_law_script", "_law_cells", "_law_cell"]
theorem scUrn : FnScope nUrn ["_law_script"] (defScope sUrn) :=
  ⟨rfl, rfl, rfl, by decide +kernel, rfl, by decide +kernel, by decide +kernel⟩
section
variable {H : Hp} {c l : Addr} {t t' : Int}
theorem val_cells : valV (urnKvs l t) (Sum.inr "cells" : Key) = some (.ref l) := by
  simp [valV, urnKvs]
theorem val_turn : valV (urnKvs l t) (Sum.inr "turn" : Key) = some (.int t) := by
  have e : ¬ ((Sum.inr "cells" : Key) = (Sum.inr "turn" : Key)) := by decide
  simp [valV, urnKvs, List.find?, e]
theorem put_turn : putK (urnKvs l t) (Sum.inr "turn" : Key) (.int t') = urnKvs l t' := by
  have e : ¬ ((Sum.inr "cells" : Key) = (Sum.inr "turn" : Key)) := by decide
  simp [putK, urnKvs, e]
theorem merge_urn : mergeK [] (urnKvs l t) = urnKvs l t := by
  have e : ¬ ((Sum.inr "cells" : Key) = (Sum.inr "turn" : Key)) := by decide
  simp [mergeK, putK, urnKvs, e]
theorem get_cells (h : H c = some (.dK (urnKvs l t))) : DGet H c (.str "cells") (some (.ref l)) := by
  have g := DGet.k (k := Sum.inr "cells") h
  rw [val_cells] at g
  exact g
theorem get_turn (h : H c = some (.dK (urnKvs l t))) : DGet H c (.str "turn") (some (.int t)) := by
  have g := DGet.k (k := Sum.inr "turn") h
  rw [val_turn] at g
  exact g
theorem put_turn_at (h : H c = some (.dK (urnKvs l t))) : DPut H c (.str "turn") (.int t') (upd H c (.dK (urnKvs l t'))) := by
  have g := DPut.k (k := Sum.inr "turn") (v := .int t') h (by show 2 < sizeLine; decide)
  rw [put_turn] at g
  exact g
end
section
variable {P : Program} {w : World} {K : PySem.W.Frag} {mg : Str → Option Value} {base : Heap}
def spPull (P : Program) (w : World) : Sp := fun vs H Q _ => ∃ (c l : Addr) (m : Int) (T : Nat), vs = [.ref c, .int m] ∧ UrnAt P w H c l T ∧ T ≤ 1000000000 ∧ 0 < m ∧ m < 1000000 ∧ ∀ r H', Ed P w c l (T + 1) H H' → 0 ≤ r → r < m → Q (.int r) H'
theorem ok_pull {f : Addr} {fd : FuncData} (F : Fun K "_law_pull" "_law_pull" sPull f fd) (T : Blt mg) : FnOk P w K mg base CX0 1 f fd ["_law_urn_here", "_law_many"] (spPull P w) := by
  refine F.ok scPull (fun vs H Q E h => ?_) (fun cdv A outer s H vs Q E hr h => ?_)
  · obtain ⟨c, l, m, T, rfl, _⟩ := h
    rfl
  obtain ⟨c, l, m, T0, rfl, C, hT, hm, hm2, k⟩ := h
  have hu := hu_of hr
  refine ⟨_, pss_urn (pss_cons (ps_par (i := 2) (j := 3) rfl scPull.nd rfl rfl (by decide) rfl rfl (pa_cons (pe_dget hu (pv 0) pe_str (fun _ _ => rfl)) (pa_cons (pe_dget hu (pv 0) pe_str (fun _ _ => rfl)) pa_nil)) rfl)
    (pss_cons (ps_dput hu (pv 0) pe_str (pe_op op_add (pv 2) pe_int) rfl)
    (pss_cons (ps_set (i := 4) scPull.nd rfl (Or.inl rfl) (pe_op op_modN (pv 2) (pe_callB (k_len (K := K) rfl) rfl T.len bt_len (pa_cons (pv 3) pa_nil))))
    (pss_cons (ps_set (i := 5) scPull.nd rfl (Or.inl rfl) (pe_ix (kx_list (K := K) rfl) (pv 3) (pv 4) (fun _ _ => rfl)))
    (pss_cons (ps_if (pt_cmpR op_ge (pv 5) (pe_op op_pow pe_int pe_int) (nomark _)) (pss_cons (ps_asg (pe_op op_fdivW (pv 5) (pv 1)) (pg_sub (pv 3) (pv 4) set_list))
      (pss_one (ps_ret (pe_op op_modN (pv 5) (pv 1))))) pss_nil)
    (pss_cons (ps_set (i := 6) scPull.nd rfl (Or.inl rfl) (pe_op op_add (pe_op op_mul (pe_op op_modN (pv 5) pe_int) pe_int) (pe_op op_mul (pe_op op_mul (pv 2) (pv 2)) pe_int)))
    (pss_cons (ps_set (i := 6) scPull.nd rfl (Or.inl rfl) (pe_op op_modN (pe_op op_add (pe_op op_add (pv 6) (pe_op op_mul pe_int (pv 2))) pe_int) pe_int))
    (pss_cons (ps_set (i := 6) scPull.nd rfl (Or.inl rfl) (pe_op op_modN (pe_op op_mul (pe_op op_modN (pe_op op_mul (pv 6) (pv 6)) pe_int) pe_int) pe_int))
    (pss_one (ps_ret (pe_op op_modN (pe_op op_fdivW (pe_op op_modN (pe_op op_mul (pv 6) (pe_op op_add (pe_op op_add (pv 6) (pe_op op_mul pe_int (pv 2))) pe_int)) pe_int) pe_int) (pv 1)))))))))))), ?_⟩
  have sc := C.cc
  have sl := C.ll
  obtain ⟨T1, hT1, h1, h2, hcl⟩ := C
  refine ⟨c, l, T1, T1 + 1, h1, h2, hcl, fun tm cs t0 t1 g => ?_⟩
  have q1 : upd (upd H c (.dK (urnKvs l tm))) l (.lst (cs.map V.int)) c = some (.dK (urnKvs l tm)) := by rw [upd_ne hcl.symm, upd_same]
  have q2 : upd (upd H c (.dK (urnKvs l tm))) l (.lst (cs.map V.int)) l = some (.lst (cs.map V.int)) := upd_same
  have o1 : ∀ b, b ≠ c → b ≠ l → upd (upd H c (.dK (urnKvs l tm))) l (.lst (cs.map V.int)) b = H b := fun b n1 n2 => by rw [upd_ne n2, upd_ne n1]
  generalize upd (upd H c (.dK (urnKvs l tm))) l (.lst (cs.map V.int)) = G at q1 q2 o1 ⊢
  -- the way back
  have back : ∀ H1 : Hp, (∀ b, b ≠ c → b ≠ l → H1 b = H b) → Ed P w c l (T0 + 1) H (upd (upd H1 c (.ext (phiU P w c l (T1 + 1)))) l (.ext (phiL P w l))) := fun H1 o => by
    refine ⟨fun b u z e => ?_, fun b e => ?_, ⟨T1 + 1, by omega, by rw [upd_ne hcl.symm, upd_same], upd_same, hcl⟩, sc, sl⟩
    · have nc : b ≠ c := fun y => by rw [y, h1] at e; cases e; cases z
      have nl : b ≠ l := fun y => by rw [y, h2] at e; cases e; cases z
      rw [upd_ne nl, upd_ne nc, o b nc nl]
      exact e
    · by_cases hl : b = l
      · rw [hl, upd_same] at e; cases e
      · rw [upd_ne hl] at e
        by_cases hc : b = c
        · rw [hc, upd_same] at e; cases e
        · rw [upd_ne hc, o b hc hl] at e
          exact e
  -- turn, cells = ..
  refine ⟨_, rfl, c, _, rfl, get_turn q1, _, rfl, c, _, rfl, get_cells q1, _, _, rfl, ?_⟩
  -- urn['turn'] = turn + 1
  refine ⟨_, rfl, _, _, rfl, rfl, _, rfl, c, _, rfl, put_turn_at q1, ?_⟩
  have p1 : upd G c (.dK (urnKvs l (tm + 1))) c = some (.dK (urnKvs l (tm + 1))) := upd_same
  have p2 : upd G c (.dK (urnKvs l (tm + 1))) l = some (.lst (cs.map V.int)) := by rw [upd_ne hcl]; exact q2
  have p3 : ∀ b, b ≠ c → b ≠ l → upd G c (.dK (urnKvs l (tm + 1))) b = H b := fun b n1 n2 => by rw [upd_ne n1]; exact o1 b n1 n2
  generalize upd G c (.dK (urnKvs l (tm + 1))) = G2 at p1 p2 p3 ⊢
  have hl : 0 < cs.length := List.length_pos_iff.mpr g.2.1
  have hl0 : ((cs.map V.int).length : Int) ≠ 0 := by rw [List.length_map]; omega
  have b0 := Int.fmod_nonneg_of_pos tm (b := ((cs.map V.int).length : Int)) (by rw [List.length_map]; omega)
  have b1 := Int.fmod_lt_of_pos tm (b := ((cs.map V.int).length : Int)) (by rw [List.length_map]; omega)
  -- seat, cell
  refine ⟨_, rfl, _, rfl, l, _, rfl, .inl (SqL.of p2), _, _, rfl, rfl, hl0, ?_⟩
  obtain ⟨j, jj⟩ : ∃ j, tm.fmod ((cs.map V.int).length : Int) = j := ⟨_, rfl⟩
  rw [jj] at b0 b1
  rw [List.length_map] at b1
  have hj : j.toNat < cs.length := by omega
  have ej : ((j.toNat : Nat) : Int) = j := by omega
  have ha : atI (cs.map V.int) (tm.fmod ((cs.map V.int).length : Int)) = some (.int cs[j.toNat]) := by
    have := atI_nat (xs := cs.map V.int) (j := j.toNat) (v := .int cs[j.toNat]) (by rw [List.getElem?_map, List.getElem?_eq_getElem hj]; rfl)
    rw [ej] at this
    rw [jj]
    exact this
  have hx0 := g.1 _ (List.getElem_mem hj)
  generalize cs[j.toNat] = x at hx0 ha
  refine ⟨_, rfl, _, rfl, l, _, _, _, rfl, rfl, SqL.of p2, ha, ?_⟩
  -- if cell >= 10 ** 18
  refine ⟨_, rfl, _, _, rfl, rfl, ⟨by decide, by decide, by decide⟩, _, _, rfl, rfl, _, rfl, ?_⟩
  refine ite2 (fun _ => ?_) (fun _ => ?_)
  · have hi : ixN (cs.map V.int).length (tm.fmod ((cs.map V.int).length : Int)) = some j.toNat := by
      rw [jj]
      unfold ixN
      rw [List.length_map, if_pos b0, if_pos b1]
    refine ⟨_, rfl, _, rfl, _, _, rfl, rfl, wide_div hm (b := 20) (by omega) (by decide) (by decide), _, rfl, _, rfl, l, _, _, j.toNat, rfl, rfl, p2, hi, ?_⟩
    refine ⟨_, rfl, _, rfl, _, _, rfl, rfl, by omega, tm + 1, cs.set j.toNat (x / m), by rw [upd_ne hcl.symm]; exact p1, by rw [upd_same, ← List.map_set], by omega, by omega, ⟨fun y hy => ?_, ?_, by rw [List.length_set]; exact g.2.2⟩, ?_⟩
    · rcases List.mem_or_eq_of_mem_set hy with q | rfl
      · exact g.1 y q
      · exact Int.ediv_nonneg hx0 (by omega)
    · intro z
      have := congrArg List.length z
      rw [List.length_set] at this
      simp at this
      exact g.2.1 this
    · exact k _ _ (back _ fun b n1 n2 => by rw [upd_ne n2]; exact p3 b n1 n2) (Int.fmod_nonneg_of_pos _ hm) (Int.fmod_lt_of_pos _ hm)
  · have big : ∀ y : Int, 0 ≤ y.fmod 2147483629 ∧ y.fmod 2147483629 < 2147483629 := fun y => ⟨Int.fmod_nonneg_of_pos _ (by decide), Int.fmod_lt_of_pos _ (by decide)⟩
    have big2 : ∀ y : Int, 0 ≤ y.fmod 2147483563 ∧ y.fmod 2147483563 < 2147483563 := fun y => ⟨Int.fmod_nonneg_of_pos _ (by decide), Int.fmod_lt_of_pos _ (by decide)⟩
    have mul1 : ∀ y z : Int, CMul (y.fmod 2147483629) z := fun y z => .inl (by have := big y; omega)
    have mul2 : ∀ y z : Int, CMul (y.fmod 2147483563) z := fun y z => .inl (by have := big2 y; omega)
    have nz007 : (1000000007 : Int) ≠ 0 := by decide
    have nz629 : (2147483629 : Int) ≠ 0 := by decide
    have nz587 : (2147483587 : Int) ≠ 0 := by decide
    have nz563 : (2147483563 : Int) ≠ 0 := by decide
    -- cell % .. * 40503 + turn * turn * 69069
    refine ⟨_, rfl, _, _, rfl, rfl, nz007, _, _, rfl, rfl, .inr (by decide), _, rfl, _, rfl, _, _, rfl, rfl, .inl (by omega), _, _, rfl, rfl, .inr (by decide), _, _, rfl, rfl, ?_⟩
    refine ⟨_, rfl, _, rfl, _, _, rfl, rfl, .inl (by decide), _, _, rfl, rfl, _, _, rfl, rfl, _, _, rfl, rfl, nz629, ?_⟩
    refine ⟨_, rfl, _, rfl, _, _, rfl, rfl, mul1 _ _, _, _, rfl, rfl, nz587, _, _, rfl, rfl, .inr (by decide), _, _, rfl, rfl, nz563, ?_⟩
    refine ⟨_, rfl, _, rfl, _, rfl, _, _, rfl, rfl, .inl (by decide), _, _, rfl, rfl, _, _, rfl, rfl, _, _, rfl, rfl, mul2 _ _, _, _, rfl, rfl, nz629, _, _, rfl, rfl, wide_div (by decide) (b := 20) (by decide) (by decide) (by decide), _, rfl, _, _, rfl, rfl, by omega, tm + 1, cs, p1, p2, by omega, by omega, g, ?_⟩
    exact k _ _ (back _ p3) (Int.fmod_nonneg_of_pos _ hm) (Int.fmod_lt_of_pos _ hm)
def spUrn (P : Program) (w : World) (K : PySem.W.Frag) : Sp := fun vs H Q _ => ∃ (a : Addr) (ns : List Int), vs = [.ref a] ∧ SqL K H a (ns.map V.int) ∧ ns.length ≤ 63 ∧ ∀ c l H', Ex H H' → UrnAt P w H' c l 0 → Q (.ref c) H'
theorem cut_to' {ns : List Int} {k : Nat} : cutV (ns.map V.int) none (some (k : Int)) = (ns.take k).map V.int := by
  rw [cut_to, List.map_take]
theorem ok_urn {f : Addr} {fd : FuncData} (F : Fun K "_law_urn" "_law_urn" sUrn f fd) (T : Blt mg) : FnOk P w K mg base CX0 1 f fd ["_law_script"] (spUrn P w K) := by
  refine F.ok scUrn (fun vs H Q E h => ?_) (fun cdv A outer s H vs Q E hr h => ?_)
  · obtain ⟨a, ns, rfl, _⟩ := h
    rfl
  obtain ⟨a, ns, rfl, hS, hlen, k⟩ := h
  refine ⟨_, pss_shutU (pss_cons (ps_setLc (i := 1) (own := [("_law_cell", 2)]) (g := gName 2) (by rfl) scUrn.nd rfl rfl (sw_true rfl rfl rfl (by decide +kernel)) (ki_list (K := K) rfl (pe_slice (ks_list (K := K) rfl) (pv 0) po_none (po_some pe_int))) (blkOk_by (own := [("_law_cell", 2)]) (N := nUrn) (sc := defScope sUrn) (by decide +kernel)) (fun _ _ _ _ _ => (pg_name (i := 2) scUrn.nd rfl (Or.inl rfl))) (fun _ _ _ _ _ => pts_nil) (fun _ _ _ _ _ => (pe_callB call_abs rfl T.abs bt_abs (pa_cons (pv 2) pa_nil))))
    (pss_one (ps_ret (pe_disp (pps_cons pe_str (pe_op op_cat (pv 1) (pe_op op_rep (pe_lst (pa_cons pe_int pa_nil)) (pe_callTy call_int1 rfl T.int bt_int (pa_cons (pe_cmpR (ko_eqD (K := K) rfl hr.units) (pv 1) (pe_lst pa_nil) (nomark _)) pa_nil)))) (pps_cons pe_str pe_int pps_nil)) (by rfl) (by rfl) (fun z => by cases z) (by decide))))), ?_⟩
  have c58 : cutV (ns.map V.int) none (some 58) = (ns.take 58).map V.int := cut_to' (k := 58)
  -- cells = [abs(cell) for cell in script[:58]]
  refine ⟨_, rfl, _, rfl, a, _, rfl, hS, fun p hp => ?_⟩
  rw [c58]
  have hlen2 : (ns.take 58).length ≤ 58 := by rw [List.length_take]; omega
  generalize ns.take 58 = ns at hlen2 ⊢
  refine ⟨p, rfl, ⟨_, SqL.of upd_same⟩, fun D hD => made_list (fun _ v _ => ∃ z, v = .int z ∧ 0 ≤ z) hD (SqL.of upd_same) (by rw [List.length_map]; omega) (fun _ _ _ _ _ _ _ m => m) (fun _ => rfl) ?_ ?_⟩
  · intro i x hi H' _ Q1 q
    rw [List.getElem?_map] at hi
    cases e2 : ns[i]? with
    | none => rw [e2] at hi; cases hi
    | some z =>
      rw [e2] at hi
      cases hi
      exact ⟨_, rfl, z, rfl, q _ H' (Evl.Ex.refl _) ⟨_, rfl, by first | omega | (split <;> omega)⟩⟩
  intro ys H1 hy e1 h1 hm
  rw [List.length_map] at hy
  obtain ⟨cs, rfl⟩ : ∃ cs : List Int, ys = cs.map V.int := ints_of fun k v hk => let ⟨z, h, _⟩ := hm k v hk; ⟨z, h⟩
  have hpos : ∀ x ∈ cs, 0 ≤ x := fun x hx => by
    obtain ⟨i, hi⟩ := List.mem_iff_getElem?.mp hx
    obtain ⟨z, h, h0⟩ := hm i (.int x) (by rw [List.getElem?_map, hi]; rfl)
    cases h
    exact h0
  rw [List.length_map] at hy
  have nD : H D = none := Evl.fresh_back (Evl.Ex.new hp) hD
  have e0 : Ex H H1 := (Evl.Ex.new hp).trans e1
  -- {'cells': cells + [31] * int(cells == []), 'turn': 0}
  intro c hc
  have ncD : D ≠ c := ne_of_none h1 hc
  have gD : upd H1 c (.dK []) D = some (.lst (cs.map V.int)) := by rw [upd_ne ncD]; exact h1
  have gc : upd H1 c (.dK []) c = some (.dK []) := upd_same
  have eG : Ex H1 (upd H1 c (.dK [])) := Evl.Ex.new hc
  generalize upd H1 c (.dK []) = G at gD gc eG ⊢
  refine ⟨_, rfl, (by show 1 ≤ sizeLine; decide), fun q hq => ⟨_, rfl, (by show 0 ≤ sizeLine; decide), fun r hr2 => ?_⟩⟩
  have nqr : q ≠ r := ne_of_none upd_same hr2
  have gD1 : upd G q (.lst [.int 31]) D = some (.lst (cs.map V.int)) := by rw [upd_ne (ne_of_none gD hq)]; exact gD
  have gD2 : upd (upd G q (.lst [.int 31])) r (.lst []) D = some (.lst (cs.map V.int)) := by rw [upd_ne (ne_of_none gD1 hr2)]; exact gD1
  have gq2 : upd (upd G q (.lst [.int 31])) r (.lst []) q = some (.lst [.int 31]) := by rw [upd_ne nqr]; exact upd_same
  have e2 : Ex G (upd (upd G q (.lst [.int 31])) r (.lst [])) := (Evl.Ex.new hq).trans (Evl.Ex.new hr2)
  have gr2 : upd (upd G q (.lst [.int 31])) r (.lst []) r = some (.lst []) := upd_same
  generalize upd (upd G q (.lst [.int 31])) r (.lst []) = G2 at gD2 gq2 gr2 e2 ⊢
  refine ⟨.list (cs.map .int), .list [], .lst (SqL.of gD2) (dp_ints _ _ cs), .lst (SqL.of gr2) .nil, shaped_ints cs, shaped_ints [], .inr ⟨_, rfl, q, _, _, rfl, rfl, gq2, ?_, ?_, ?_, fun u hu2 => ?_⟩⟩
  · split <;> decide
  · split <;> decide
  · rw [eqv_nil]
    cases cs
    · decide
    · exact Nat.zero_le _
  have nDu : D ≠ u := ne_of_none gD2 hu2
  refine ⟨D, u, _, _, rfl, rfl, by rw [upd_ne nDu]; exact gD2, upd_same, ?_, fun al hal => ?_⟩
  · rw [eqv_nil, List.length_map]
    cases cs with
    | nil => decide
    | cons y r => exact Nat.le_trans (by simp at hy ⊢; omega) (by decide : 63 ≤ sizeLine)
  have ecs : cs.map V.int ++ (List.replicate (if PyData.eqv (.list (cs.map .int)) (.list []) = true then (1 : Int) else 0).toNat [V.int 31]).flatten = (if cs.isEmpty then [31] else cs).map V.int := by
    rw [eqv_nil]
    cases cs <;> simp
  rw [ecs]
  have hok : CellsOk (if cs.isEmpty then [31] else cs) := by
    cases cs with
    | nil => exact ⟨by intro x hx; simp at hx; omega, by simp, by simp⟩
    | cons y r => exact ⟨by simpa using hpos, by simp, by simp at hy ⊢; omega⟩
  generalize (if cs.isEmpty then [31] else cs) = ws at hok ⊢
  have c2 : G2 c = some (.dK []) := e2 _ _ gc
  have ncu : c ≠ u := ne_of_none c2 hu2
  have ncal : c ≠ al := ne_of_none (by rw [upd_ne ncu]; exact c2) hal
  have c3 : upd (upd G2 u (.lst (List.replicate (if PyData.eqv (.list (cs.map .int)) (.list []) = true then (1 : Int) else 0).toNat [V.int 31]).flatten)) al (.lst (ws.map V.int)) c = some (.dK []) := by
    rw [upd_ne ncal, upd_ne ncu]
    exact c2
  have a3 : upd (upd G2 u (.lst (List.replicate (if PyData.eqv (.list (cs.map .int)) (.list []) = true then (1 : Int) else 0).toNat [V.int 31]).flatten)) al (.lst (ws.map V.int)) al = some (.lst (ws.map V.int)) := upd_same
  have e3 : Ex H1 (upd (upd G2 u (.lst (List.replicate (if PyData.eqv (.list (cs.map .int)) (.list []) = true then (1 : Int) else 0).toNat [V.int 31]).flatten)) al (.lst (ws.map V.int))) :=
    ((eG.trans e2).trans (Evl.Ex.new hu2)).trans (Evl.Ex.new hal)
  have nal : H1 al = none := Evl.fresh_back ((eG.trans e2).trans (Evl.Ex.new hu2)) hal
  generalize upd (upd G2 u (.lst (List.replicate (if PyData.eqv (.list (cs.map .int)) (.list []) = true then (1 : Int) else 0).toNat [V.int 31]).flatten)) al (.lst (ws.map V.int)) = G3 at c3 a3 e3 ⊢
  refine ⟨c3, urnKvs al 0, rfl, (by show 2 ≤ 15; decide), c, al, 0, ws, 0, rfl, by rw [upd_same, merge_urn], by rw [upd_ne ncal.symm]; exact a3, by decide, by decide, hok, ncal.symm, ?_⟩
  have nc1 : H1 c = none := hc
  exact k c al _ (e0.trans (Evl.Ex.mut (Evl.Ex.mut (Evl.Ex.mut e3 nc1) nc1) nal)) ⟨0, Nat.le_refl _, by rw [upd_ne ncal]; exact upd_same, upd_same, ncal.symm⟩
end
end Lr

namespace Lr
open PySem L2
abbrev sMixed : Stmt := topS 25
abbrev nMixed : List Str := ["_law_urn_here", "_law_items", "_law_pool", "_law_found"]
theorem scMixed : FnScope nMixed ["_law_urn_here", "_law_items"] (defScope sMixed) :=
  ⟨rfl, rfl, rfl, by decide +kernel, rfl, by decide +kernel, by decide +kernel⟩
abbrev sRule : Stmt := topS 26
abbrev nRule : List Str := ["_law_urn_here", "_law_many", "_law_way", "_law_base", "_law_last", "_law_lane", "_law_k"]
theorem scRule : FnScope nRule ["_law_urn_here"] (defScope sRule) :=
  ⟨rfl, rfl, rfl, by decide +kernel, rfl, by decide +kernel, by decide +kernel⟩
abbrev sRow : Stmt := topS 27
abbrev nRow : List Str := ["_law_urn_here", "_law_rule_here", "_law_cars", "_law_many", "_law_lanes", "_law_way", "_law_car"]
theorem scRow : FnScope nRow ["_law_urn_here", "_law_rule_here", "_law_cars"] (defScope sRow) :=
  ⟨rfl, rfl, rfl, by decide +kernel, rfl, by decide +kernel, by decide +kernel⟩
section
variable {P : Program} {w : World} {K : PySem.W.Frag} {mg : Str → Option Value} {base : Heap}
def spMixed (P : Program) (w : World) (K : PySem.W.Frag) : Sp := fun vs H Q _ => ∃ (c l p : Addr) (ns : List Int) (T : Nat), vs = [.ref c, .ref p] ∧ UrnAt P w H c l T ∧ T ≤ 900000000 ∧ (SqL K H p (ns.map V.int) ∨ SqT K H p (ns.map V.int)) ∧ ns.length ≤ 1000 ∧
  ∀ (q : Addr) (ms : List Int) H', Ed P w c l (T + ns.length) H H' → Ti H' q (ms.map V.int) → ms.Perm ns → Q (.ref q) H'
theorem ok_mixed {f : Addr} {fd : FuncData} (F : Fun K "_law_mixed" "_law_mixed" sMixed f fd) (T : Blt mg) (c_law_pull : Cal P w K mg base 1 "_law_pull" ["_law_urn_here", "_law_many"] (spPull P w)) :
    FnOk P w K mg base CX0 2 f fd ["_law_urn_here", "_law_items"] (spMixed P w K) := by
  refine F.ok scMixed (fun vs H Q E h => ?_) (fun cdv A outer s H vs Q E hr h => ?_)
  · obtain ⟨c, l, p, ns, T, rfl, _⟩ := h
    rfl
  obtain ⟨c, u, p, ns, T0, rfl, C, hT, hp, hn, k⟩ := h
  refine ⟨_, (pss_cons (ps_par (i := 2) (j := 3) rfl scMixed.nd rfl rfl (by decide) rfl rfl (pa_cons (pe_callTy (k_list_of (K := K) rfl) rfl T.list bt_list (pa_cons (pv 1) pa_nil)) (pa_cons (pe_lst pa_nil) pa_nil)) rfl)
    (pss_cons (ps_while PassesOwn.never (pt_cmpR (ko_neD (K := K) rfl hr.units) (pv 2) (pe_lst pa_nil) (nomark _)) (pss_one (ps_expr (pe_bm PySem.F.plainAttrs_list PySem.F.slot_list_append PySem.F.type_list_append mt_append (pv 3) (pa_cons (pe_bm PySem.F.plainAttrs_list PySem.F.slot_list_pop PySem.F.type_list_pop mt_popAt (pv 2) (pa_cons (pe_cal c_law_pull (hr.mono (by decide)) rfl (pa_cons (pv 0) (pa_cons (pe_callB (k_len (K := K) rfl) rfl T.len bt_len (pa_cons (pv 2) pa_nil)) pa_nil))) pa_nil)) pa_nil)))))
    (pss_one (ps_ret (pe_callTy (k_tuple_F (K := K) rfl) rfl T.tuple bt_tuple (pa_cons (pv 3) pa_nil)))))), ?_⟩
  -- pool, found = list(items), []
  refine ⟨_, rfl, p, _, rfl, hp, fun l hl => ⟨(by show 0 ≤ sizeLine; decide), fun m hm => ⟨_, _, rfl, ?_⟩⟩⟩
  have nlm : l ≠ m := ne_of_none upd_same hm
  have hm0 : H m = none := Evl.fresh_back (Evl.Ex.new hl) hm
  -- while pool != []
  refine ⟨fun t σ H' => ∃ rs fs : List Int, t = rs.length ∧ σ = [some (.ref c), some (.ref p), some (.ref l), some (.ref m)] ∧ H' l = some (.lst (rs.map V.int)) ∧ H' m = some (.lst (fs.map V.int)) ∧ (fs ++ rs).Perm ns ∧ Ed P w c u (T0 + fs.length) H H',
    ⟨_, ns, [], rfl, rfl, by rw [upd_ne nlm]; exact upd_same, upd_same, List.Perm.refl _, C.of ((Evl.Ex.new hl).trans (Evl.Ex.new hm))⟩, ?_⟩
  rintro t σ H' ⟨rs, fs, rfl, rfl, h1, h2, hp, e⟩
  refine ⟨_, rfl, (by show 0 ≤ sizeLine; decide), fun z hz => ?_⟩
  have q1 : upd H' z (.lst []) l = some (.lst (rs.map V.int)) := by rw [upd_ne (ne_of_none h1 hz)]; exact h1
  have q2 : upd H' z (.lst []) m = some (.lst (fs.map V.int)) := by rw [upd_ne (ne_of_none h2 hz)]; exact h2
  have q3 : upd H' z (.lst []) z = some (.lst []) := upd_same
  have q4 : Ed P w c u (T0 + fs.length) H (upd H' z (.lst [])) := e.new hz
  generalize upd H' z (.lst []) = G at q1 q2 q3 q4 ⊢
  refine ⟨.list (rs.map .int), .list [], .lst (SqL.of q1) (dp_ints _ _ rs), .lst (SqL.of q3) .nil, shaped_ints rs, shaped_ints [], _, rfl, ?_⟩
  rw [eqv_nil]
  have hlen : fs.length + rs.length = ns.length := by
    have := hp.length_eq
    rw [List.length_append] at this
    exact this
  cases hrs : rs.isEmpty with
  | false =>
    refine iteT ⟨_, fun σ' H' h => h, ?_⟩
    have hpos : 0 < rs.length := by cases rs with | nil => simp at hrs | cons _ _ => simp
    have ll : ((rs.map V.int).length : Int) = rs.length := by rw [List.length_map]
    refine ⟨_, rfl, .inl ⟨rfl, _, SqL.of q2⟩, _, rfl, .inl ⟨rfl, _, SqL.of q1⟩, _, rfl, _, rfl, l, _, rfl, .inl (SqL.of q1), c, u, _, _, rfl, q4.urn, by omega, by omega, by omega, fun r H2 e2 r0 r1 => ?_⟩
    rw [ll] at r1
    obtain ⟨x, hx, hE, hP, hI⟩ := pick r0 r1
    refine ⟨l, _, r, r.toNat, .int x, rfl, rfl, e2.sq q1, by omega, by omega, hI, hx, ?_⟩
    rw [hE]
    refine ⟨m, _, _, rfl, rfl, by rw [upd_ne nlm.symm]; exact e2.sq q2, by rw [List.length_map]; exact Nat.lt_of_le_of_lt (by omega) (by decide : 1000 < sizeLine), ?_⟩
    have hle : (rs.eraseIdx r.toNat).length < rs.length := by
      have := hP.length_eq
      simp at this
      omega
    refine ⟨_, hle, rs.eraseIdx r.toNat, fs ++ [x], rfl, rfl, by rw [upd_ne nlm, upd_same], by rw [upd_same, List.map_append]; rfl, ?_, (Ed.mut (Ed.mut (q4.trans e2) hl) hm0).le (by simp; omega)⟩
    rw [List.append_assoc]
    exact (List.Perm.append_left fs hP).trans hp
  | true =>
    refine iteF ?_
    have hr0 : rs = [] := List.isEmpty_iff.mp hrs
    subst hr0
    rw [List.append_nil] at hp
    have hfl : fs.length = ns.length := hp.length_eq
    exact ⟨_, rfl, m, _, rfl, SqL.of q2, fun p G hp2 e hG => k p fs G ((q4.ex e).le (by omega)) hG hp⟩
def spRule (P : Program) (w : World) : Sp := fun vs H Q _ => ∃ (c l : Addr) (T : Nat), vs = [.ref c] ∧ UrnAt P w H c l T ∧ T ≤ 800000000 ∧ ∀ (v : V) (n : Nat) (ps : List (List Int)) H', Ed P w c l (T + 100) H H' → n ≤ 6 → RuleAt n ps H' v → Q v H'
theorem ok_rule {f : Addr} {fd : FuncData} (F : Fun K "_law_rule" "_law_rule" sRule f fd) (T : Blt mg) (c_law_pull : Cal P w K mg base 1 "_law_pull" ["_law_urn_here", "_law_many"] (spPull P w))
    (c_law_mixed : Cal P w K mg base 2 "_law_mixed" ["_law_urn_here", "_law_items"] (spMixed P w K)) : FnOk P w K mg base CX0 3 f fd ["_law_urn_here"] (spRule P w) := by
  refine F.ok scRule (fun vs H Q E h => ?_) (fun cdv A outer s H vs Q E hr h => ?_)
  · obtain ⟨c, l, T, rfl, _⟩ := h
    rfl
  obtain ⟨c, u, T0, rfl, C, hT, k⟩ := h
  refine ⟨_, (pss_cons (ps_par (i := 1) (j := 2) rfl scRule.nd rfl rfl (by decide) rfl rfl (pa_cons (pe_ix (kx_list (K := K) rfl) (pe_lst (pa_cons pe_int (pa_cons pe_int (pa_cons pe_int (pa_cons pe_int (pa_cons pe_int (pa_cons pe_int pa_nil))))))) (pe_cal c_law_pull (hr.mono (by decide)) rfl (pa_cons (pv 0) (pa_cons pe_int pa_nil))) (fun _ _ => rfl)) (pa_cons (pe_cal c_law_pull (hr.mono (by decide)) rfl (pa_cons (pv 0) (pa_cons pe_int pa_nil))) pa_nil)) rfl)
    (pss_cons (ps_set (i := 3) scRule.nd rfl (Or.inr rfl) (pe_cal c_law_mixed (hr.mono (by decide)) rfl (pa_cons (pv 0) (pa_cons (pe_listRg rfl rfl T.list (prg_1 rfl T.range (pv 1))) pa_nil))))
    (pss_cons (ps_if (pt_cmpR op_eq (pv 2) pe_int (nomark _)) (pss_one (ps_ret (pe_op (ko_repT (K := K) rfl) (pe_tup (pa_cons (pv 3) pa_nil)) (pe_op op_add (pv 1) pe_int)))) pss_nil)
    (pss_cons (ps_if (pt_cmpR op_eq (pv 2) pe_int (nomark _)) (pss_one (ps_ret (pe_op (ko_catT (K := K) rfl) (pe_tup (pa_cons (pv 3) pa_nil)) (pe_callTy (k_tuple_of (K := K) rfl) rfl T.tuple bt_tuple (pa_cons (pe_lc (own := [("_law_last", 4)]) (g := gName 4)  (by rfl) scRule.nd (pi_range1 rfl T.range (pa_cons (pv 1) pa_nil)) (blkOk_by (own := [("_law_last", 4)]) (N := nRule) (sc := defScope sRule) (by decide +kernel)) (fun _ _ _ _ _ => (pg_name (i := 4) scRule.nd rfl (Or.inr rfl))) (fun _ _ _ _ _ => pts_nil) (fun _ _ _ _ _ => (pe_callTy (k_tuple_F (K := K) rfl) rfl T.tuple bt_tuple (pa_cons (pe_op op_cat (pe_lc (own := [("_law_lane", 5)]) (g := gName 5) (wi := iTup K (tVar 3)) (tt := tTest (tOp rNe (tVar 5) (tVar 4))) (te := tVar 5) (by rfl) scRule.nd (ki_tup (K := K) rfl (pv 3)) (blkOk_by (own := [("_law_lane", 5)]) (N := nRule) (by kernel_rfl)) (fun _ _ _ _ _ => (pg_name (i := 5) scRule.nd rfl (Or.inl rfl))) (fun _ _ _ _ _ => pts_one (pt_cmpR op_ne (pv 5) (pv 4) (nomark _))) (fun _ _ _ _ _ => (pv 5))) (pe_lst (pa_cons (pv 4) pa_nil))) pa_nil)))) pa_nil))))) pss_nil)
    (pss_one (ps_ret (pe_callTy (k_tuple_of (K := K) rfl) rfl T.tuple bt_tuple (pa_cons (pe_lc (own := [("_law_k", 6)]) (g := gName 6)  (by rfl) scRule.nd (pi_range1 rfl T.range (pa_cons (pe_op op_add (pv 1) pe_int) pa_nil)) (blkOk_by (own := [("_law_k", 6)]) (N := nRule) (sc := defScope sRule) (by decide +kernel)) (fun _ _ _ _ _ => (pg_name (i := 6) scRule.nd rfl (Or.inl rfl))) (fun _ _ _ _ _ => pts_nil) (fun _ _ _ _ _ => (pe_cal c_law_mixed (hr.mono (by decide)) rfl (pa_cons (pv 0) (pa_cons (pv 3) pa_nil))))) pa_nil)))))))), ?_⟩
  -- many, way = [2, 3, 1, 2, 4, 6][pull(urn, 6)], pull(urn, 4)
  refine ⟨(by show 6 ≤ sizeLine; decide), fun l1 hl1 => ⟨_, rfl, c, u, _, T0, rfl, C.ex (Evl.Ex.new hl1), by omega, by decide, by decide, fun r H1 e1 r0 r1 => ?_⟩⟩
  obtain ⟨n, hn, hn1, hn6⟩ : ∃ n : Nat, atI [V.int 2, V.int 3, V.int 1, V.int 2, V.int 4, V.int 6] r = some (.int (n : Int)) ∧ 1 ≤ n ∧ n ≤ 6 := by
    have h6 : r = 0 ∨ r = 1 ∨ r = 2 ∨ r = 3 ∨ r = 4 ∨ r = 5 := by omega
    rcases h6 with rfl | rfl | rfl | rfl | rfl | rfl
    · exact ⟨2, rfl, by omega, by omega⟩
    · exact ⟨3, rfl, by omega, by omega⟩
    · exact ⟨1, rfl, by omega, by omega⟩
    · exact ⟨2, rfl, by omega, by omega⟩
    · exact ⟨4, rfl, by omega, by omega⟩
    · exact ⟨6, rfl, by omega, by omega⟩
  have a1 := e1.sq (upd_same (H := H) (a := l1) (o := .lst [.int 2, .int 3, .int 1, .int 2, .int 4, .int 6]))
  have E1 : Ed P w c u (T0 + 1) H H1 := Ed.pre (Evl.Ex.new hl1) C e1
  refine ⟨l1, _, _, _, rfl, rfl, SqL.of a1, hn, _, rfl, c, u, _, _, rfl, E1.urn, by omega, by decide, by decide, fun y H2 e2 y0 y1 => ⟨_, _, rfl, ?_⟩⟩
  have E2 := E1.trans e2
  clear a1 e1 e2
  -- base = mixed(urn, list(range(many)))
  refine ⟨_, rfl, _, rfl, n, rfl, RgOk.of_le (by decide) (by omega) (by decide) (by omega), fun l2 hl2 => ?_⟩
  rw [rgV_upto, Int.toNat_natCast]
  refine ⟨c, u, l2, upto n, _, rfl, E2.urn.ex (Evl.Ex.new hl2), by omega, .inl (SqL.of upd_same), by rw [upto_len]; omega, fun q ns H4 e4 hq hns => ?_⟩
  rw [upto_len] at e4
  have E4 : Ed P w c u (T0 + 8) H H4 := ((E2.new hl2).trans e4).le (by omega)
  clear E2 e4 E1
  have pq : PrefAt n (.ref q) H4 := ⟨q, ns, rfl, hq, hns⟩
  have hlen : ns.length = n := by rw [hns.length_eq, upto_len]
  have done : ∀ (p : Addr) (xs : List V) (G : Hp), Ed P w c u (T0 + 100) H4 G → G p = some (.tup xs) → xs.length = n + 1 → (∀ v ∈ xs, PrefAt n v G) → Q (.ref p) G := fun p xs G e h1 h2 h3 => by
    obtain ⟨ps, g1⟩ := rule_at hn1 h1 h2 h3
    exact k _ n ps G (E4.trans e) hn6 g1
  have own : ∀ {G : Hp}, Ex H4 G → Ed P w c u (T0 + 100) H4 G := fun e => (E4.urn.of e).le (by omega)
  -- if way == 0
  refine ⟨_, rfl, rfl, _, rfl, ?_⟩
  refine ite2 (fun _ => ?_) (fun _ => ?_)
  · refine ⟨_, rfl, (by show 1 ≤ sizeLine; decide), fun z hz => ⟨_, rfl, _, _, rfl, rfl, z, _, _, rfl, rfl, SqT.of upd_same, (by simp), by omega, by omega, (by simp), fun t ht => ?_⟩⟩
    have ex : Ex H4 (upd (upd H4 z (.tup [.ref q])) t (.tup (List.replicate ((n : Int) + 1).toNat [V.ref q]).flatten)) := (Evl.Ex.new hz).trans (Evl.Ex.new ht)
    refine done t _ _ (own ex) upd_same ?_ fun v hv => ?_
    · simp
    · have : v = .ref q := by
        simp only [List.mem_flatten, List.mem_replicate] at hv
        obtain ⟨l, ⟨_, rfl⟩, hv⟩ := hv
        simpa using hv
      subst this
      exact pq.ex ex
  -- if way == 1
  refine ⟨_, rfl, rfl, _, rfl, ?_⟩
  refine ite2 (fun _ => ?_) (fun _ => ?_)
  · refine ⟨_, rfl, (by show 1 ≤ sizeLine; decide), fun z hz => ⟨_, rfl, n, rfl, by omega, by omega, fun D hD => ?_⟩⟩
    have el : Ex H4 (upd H4 z (.tup [.ref q])) := Evl.Ex.new hz
    have al : upd H4 z (.tup [.ref q]) z = some (.tup [.ref q]) := upd_same
    generalize upd H4 z (.tup [.ref q]) = G2 at el al hD ⊢
    rw [Int.toNat_natCast]
    refine made_range (fun _ v H' => PrefAt n v H') hD (by omega) (fun _ _ _ _ _ _ e m => m.exl e) (fun _ => rfl) (fun i hi G3 e5 Q1 q1 => ?_) (fun ys G4 hy e6 hD4 hm => ?_)
    · have a3 : Ti G3 q (ns.map V.int) := (hq.ex el).ex e5
      refine ⟨_, rfl, q, rfl, ⟨_, a3.sq⟩, fun D2 hD2 => ?_⟩
      refine filt_tup (fun v => !decide (v = .int (i : Int))) hD2 (a3.sq) (by rw [List.length_map]; omega) (fun _ => rfl) (fun x G5 hx e7 Q2 q2 => ?_) (fun x G5 e7 Q2 q2 => ⟨_, rfl, q2⟩) (fun G5 e7 hG5 => ?_)
      · obtain ⟨x, _, rfl⟩ := List.mem_map.mp hx
        exact ⟨_, rfl, _, rfl, rfl, _, rfl, q2⟩
      · rw [filt_int] at hG5
        have fl := List.length_filter_le (fun x => !decide (x = (i : Int))) ns
        refine ⟨_, rfl, (by show 1 ≤ sizeLine; decide), fun b hb => ⟨D2, b, _, _, rfl, rfl, by rw [upd_ne (ne_of_none hG5 hb)]; exact hG5, upd_same, ?_, fun b2 hb2 => ⟨b2, _, rfl, SqL.of upd_same, fun b3 G8 hb3 e8 h8 => ?_⟩⟩⟩
        · simp only [List.length_map, List.length_cons, List.length_nil]
          exact Nat.le_trans (by omega : _ ≤ 1000) (by decide)
        · exact q1 _ _ (((e7.trans (Evl.Ex.new hb)).trans (Evl.Ex.new hb2)).trans e8) ⟨b3, ns.filter (fun x => !decide (x = (i : Int))) ++ [(i : Int)], rfl, by rw [List.map_append]; exact h8, end_perm hns (by omega) (by omega)⟩
    · refine ⟨D, _, rfl, .inl ⟨SqL.of hD4, fun t ht => ?_⟩⟩
      refine cat_at (by rw [upd_ne (ne_of_none (e6 _ _ al) ht)]; exact e6 _ _ al) upd_same (by simp [hy]; omega) fun t2 G7 e9 ht2 => ?_
      have ex : Ex G4 G7 := (Evl.Ex.new ht).trans e9
      refine done t2 _ _ (own ((el.trans e6).trans ex)) ht2 (by simp [hy]) fun v hv => ?_
      rcases List.mem_cons.mp hv with rfl | hv
      · exact pq.ex ((el.trans e6).trans ex)
      · obtain ⟨i, hi⟩ := List.mem_iff_getElem?.mp hv
        exact (hm i v hi).ex ex
  -- the rest
  refine ⟨_, rfl, _, _, rfl, rfl, (n : Int) + 1, rfl, by omega, by omega, fun D hD => ?_⟩
  have en : ((n : Int) + 1).toNat = n + 1 := by omega
  rw [en]
  refine made_rangeD (T := T0 + 8) 6 (fun _ v H' => PrefAt n v H') E4.urn hD (by omega) (fun _ _ _ _ e m => m.exd e) (fun _ => rfl) (fun i hi G3 e5 Q1 q1 => ?_) (fun ys G4 hy e6 hD4 hm => ?_)
  · refine ⟨_, rfl, _, rfl, c, u, q, ns, _, rfl, e5.urn, by omega, .inr (hq.ed e5).sq, by omega, fun b ms G5 e7 hb hms => q1 _ G5 (e7.le (by omega)) ⟨b, ms, rfl, hb, hms.trans hns⟩⟩
  · refine ⟨D, _, rfl, .inl ⟨SqL.of hD4, fun t2 ht2 => ?_⟩⟩
    refine done t2 _ _ ((e6.new ht2).le (by omega)) upd_same hy fun v hv => ?_
    obtain ⟨i, hi⟩ := List.mem_iff_getElem?.mp hv
    exact (hm i v hi).ex (Evl.Ex.new ht2)
def spRow (P : Program) (w : World) : Sp := fun vs H Q _ => ∃ (c l : Addr) (v : V) (u n : Nat) (ps : List (List Int)) (T : Nat), vs = [.ref c, v, .int u] ∧ UrnAt P w H c l T ∧ T ≤ 800000000 ∧ RuleAt n ps H v ∧ n ≤ 100 ∧ 1 ≤ u ∧ u ≤ 1000 ∧
  ∀ (p : Addr) (ns : List Int) H', Ed P w c l (T + 2 + u) H H' → H' p = some (.tup (ns.map V.int)) → 1 ≤ ns.length → ns.length ≤ u → InLanes n ns → Q (.ref p) H'
theorem ok_row {f : Addr} {fd : FuncData} (F : Fun K "_law_row" "_law_row" sRow f fd) (T : Blt mg) (c_law_pull : Cal P w K mg base 1 "_law_pull" ["_law_urn_here", "_law_many"] (spPull P w)) :
    FnOk P w K mg base CX0 2 f fd ["_law_urn_here", "_law_rule_here", "_law_cars"] (spRow P w) := by
  refine F.ok scRow (fun vs H Q E h => ?_) (fun cdv A outer s H vs Q E hr h => ?_)
  · obtain ⟨c, l, v, u, n, ps, T, rfl, _⟩ := h
    rfl
  obtain ⟨c, l, v, u, n, ps, T0, rfl, C, hT, hv, hn, hu1, hu2, k⟩ := h
  have hR := hv.1
  obtain ⟨a, xs, rfl, ha, hx, _⟩ := hv.get
  refine ⟨_, (pss_cons (ps_asg (pe_tup (pa_cons (pe_op op_add pe_int (pe_cal c_law_pull (hr.mono (by decide)) rfl (pa_cons (pv 0) (pa_cons (pv 2) pa_nil)))) (pa_cons (pe_op op_sub (pe_callB (k_len (K := K) rfl) rfl T.len bt_len (pa_cons (pv 1) pa_nil)) pe_int) (pa_cons (pe_cal c_law_pull (hr.mono (by decide)) rfl (pa_cons (pv 0) (pa_cons pe_int pa_nil))) pa_nil)))) (pg_tup rfl (pgs_cons (pg_name (i := 3) scRow.nd rfl (Or.inl rfl)) (pgs_cons (pg_name (i := 4) scRow.nd rfl (Or.inr rfl)) (pgs_cons (pg_name (i := 5) scRow.nd rfl (Or.inr rfl)) pgs_nil)))))
    (pss_cons (ps_if (pt_cmpR op_eq (pv 5) pe_int (nomark _)) (pss_one (ps_ret (pe_callTy (k_tuple_of (K := K) rfl) rfl T.tuple bt_tuple (pa_cons (pe_lc (own := [("_law_car", 6)]) (g := gName 6)  (by rfl) scRow.nd (pi_range1 rfl T.range (pa_cons (pv 3) pa_nil)) (blkOk_by (own := [("_law_car", 6)]) (N := nRow) (sc := defScope sRow) (by decide +kernel)) (fun _ _ _ _ _ => (pg_name (i := 6) scRow.nd rfl (Or.inl rfl))) (fun _ _ _ _ _ => pts_nil) (fun _ _ _ _ _ => (pe_op op_modN (pv 6) (pv 4)))) pa_nil)))) pss_nil)
    (pss_one (ps_ret (pe_callTy (k_tuple_of (K := K) rfl) rfl T.tuple bt_tuple (pa_cons (pe_lc (own := [("_law_car", 6)]) (g := gName 6)  (by rfl) scRow.nd (pi_range1 rfl T.range (pa_cons (pv 3) pa_nil)) (blkOk_by (own := [("_law_car", 6)]) (N := nRow) (sc := defScope sRow) (by decide +kernel)) (fun _ _ _ _ _ => (pg_name (i := 6) scRow.nd rfl (Or.inl rfl))) (fun _ _ _ _ _ => pts_nil) (fun _ _ _ _ _ => (pe_cal c_law_pull (hr.mono (by decide)) rfl (pa_cons (pv 0) (pa_cons (pe_ix (kx_list (K := K) rfl) (pe_lst (pa_cons (pv 4) (pa_cons (pe_callB (call_min2 rfl) rfl T.min bt_min (pa_cons pe_int (pa_cons (pv 4) pa_nil))) pa_nil))) (pe_callTy call_int1 rfl T.int bt_int (pa_cons (pe_and (pe_cmpR op_eq (pv 5) pe_int (nomark _)) (pe_one (pe_cmpR op_gt (pv 6) pe_int (nomark _)))) pa_nil)) (fun _ _ => rfl)) pa_nil))))) pa_nil)))))), ?_⟩
  have hn1 := hR.1
  have hxl : xs.length = n + 1 := hx
  -- many, lanes, way
  refine ⟨_, rfl, _, rfl, c, l, _, T0, rfl, C, by omega, by omega, by omega, fun r H1 e1 r0 r1 => ⟨_, _, rfl, rfl, _, rfl, a, _, rfl, .inr (SqT.of (e1.tu ha)), _, _, rfl, rfl, _, rfl, c, l, _, _, rfl, e1.urn, by omega, by decide, by decide, fun y H2 e2 y0 y1 => ⟨(by show 3 ≤ sizeLine; decide), fun p hp => ⟨p, _, rfl, SqT.of upd_same, rfl, _, _, rfl, _, _, rfl, _, _, rfl, rfl, ?_⟩⟩⟩⟩
  obtain ⟨m, hm⟩ : ∃ m : Nat, 1 + r = (m : Int) := ⟨(1 + r).toNat, by omega⟩
  have hv1 : (fun i j : Int => V.int (i + j)) 1 r = V.int (m : Int) := congrArg V.int hm
  have hv2 : (fun i j : Int => V.int (i - j)) (xs.length : Int) 1 = V.int (n : Int) := congrArg V.int (by omega)
  rw [hv1, hv2]
  have e3 : Ed P w c l (T0 + 2) H (upd H2 p (.tup [.int m, .int n, .int y])) := (e1.trans e2).new hp
  generalize upd H2 p (.tup [.int m, .int n, .int y]) = G at e3 ⊢
  have done : ∀ (ys : List V) (D : Addr) (G' : Hp), Ed P w c l (T0 + 2 + u) H G' → G' D = some (.lst ys) → ys.length = m → (∀ (i : Nat) (v : V), ys[i]? = some v → ∃ z, v = .int z ∧ 0 ≤ z ∧ z < n) → rTupOf K [.ref D] G' Q := fun ys D G' e hD hl hm2 => by
    obtain ⟨cs, rfl⟩ := ints_of (ys := ys) fun i v hi => let ⟨z, h1, _⟩ := hm2 i v hi; ⟨z, h1⟩
    rw [List.length_map] at hl
    refine ⟨D, _, rfl, .inl ⟨SqL.of hD, fun l2 hl2 => k l2 cs _ (e.new hl2) upd_same (by omega) (by omega) fun x hx => ?_⟩⟩
    obtain ⟨i, hi⟩ := List.mem_iff_getElem?.mp hx
    obtain ⟨z, h1, h2⟩ := hm2 i (.int x) (by rw [List.getElem?_map, hi]; rfl)
    cases h1
    exact h2
  -- if way == 0
  refine ⟨_, rfl, rfl, _, rfl, ?_⟩
  refine ite2 (fun _ => ?_) (fun hy => ?_)
  · refine ⟨_, rfl, m, rfl, by omega, by omega, fun D hD => ?_⟩
    rw [Int.toNat_natCast]
    refine made_range (fun _ v _ => ∃ z, v = .int z ∧ 0 ≤ z ∧ z < n) hD (by omega) (fun _ _ _ _ _ _ _ q => q) (fun _ => rfl) (fun i hi G3 e5 Q1 q1 => ?_) (fun ys G4 hy e6 hD4 hq => done ys D G4 ((e3.ex e6).le (by omega)) hD4 hy hq)
    exact ⟨_, rfl, _, rfl, _, _, rfl, rfl, by omega, q1 _ G3 (Evl.Ex.refl _) ⟨_, rfl, Int.fmod_nonneg_of_pos _ (by omega), Int.fmod_lt_of_pos _ (by omega)⟩⟩
  -- the rest
  refine ⟨_, rfl, m, rfl, by omega, by omega, fun D hD => ?_⟩
  rw [Int.toNat_natCast]
  refine made_rangeD (T := T0 + 2) 1 (fun _ v _ => ∃ z, v = .int z ∧ 0 ≤ z ∧ z < n) e3.urn hD (by omega) (fun _ _ _ _ _ q => q) (fun _ => rfl) (fun i hi G3 e5 Q1 q1 => ?_) (fun ys G4 hy e6 hD4 hq => done ys D G4 ((e3.trans e6).le (by omega)) hD4 hy hq)
  have hat : ∀ b : Bool, ∃ t : Nat, atI [V.int (n : Int), V.int (if (n : Int) < 2 then (n : Int) else 2)] (if b = true then 1 else 0) = some (.int (t : Int)) ∧ 1 ≤ t ∧ t ≤ n := fun b => by
    cases b with
    | false => exact ⟨n, rfl, by omega, by omega⟩
    | true =>
      by_cases h2 : (n : Int) < 2
      · rw [if_pos h2]; exact ⟨n, rfl, by omega, by omega⟩
      · rw [if_neg h2]; exact ⟨2, rfl, by omega, by omega⟩
  have pull : ∀ (l2 : Addr) (G4 : Hp) (b : Bool), Ex G3 G4 → G4 l2 = some (.lst [V.int (n : Int), V.int (if (n : Int) < 2 then (n : Int) else 2)]) → rIxL K (.ref l2) (.int (if b = true then 1 else 0)) G4 fun v H1 => tNil [] H1 fun vs H2 => spPull P w ([.ref c, v] ++ vs) H2 Q1 E0 := fun l2 G4 b e8 h8 => by
    obtain ⟨t, ht, ht1, ht2⟩ := hat b
    have C4 := e5.urn.ex e8
    exact ⟨l2, _, _, _, rfl, rfl, SqL.of h8, ht, c, l, _, _, rfl, C4, by omega, by omega, by omega, fun z G5 e7 z0 z1 => q1 _ G5 ((Ed.pre e8 e5.urn e7).le (by omega)) ⟨z, rfl, z0, by omega⟩⟩
  refine ⟨_, rfl, _, rfl, _, rfl, _, _, rfl, (by show 2 ≤ sizeLine; decide), fun l2 hl2 => ⟨_, rfl, rfl, _, rfl, ?_⟩⟩
  have e8 : Ex G3 (upd G3 l2 (.lst [V.int (n : Int), V.int (if (n : Int) < 2 then (n : Int) else 2)])) := Evl.Ex.new hl2
  refine ite2 (fun _ => ?_) (fun _ => ?_)
  · exact ⟨_, rfl, _, _, rfl, rfl, .inr ⟨_, rfl, pull _ _ _ e8 upd_same⟩⟩
  · exact .inr ⟨_, rfl, pull _ _ _ e8 upd_same⟩
end
end Lr

namespace Lr
open PySem L2
/-! ### what a fault of a rule or a row is: said once -/
def withinD (d : PyData) (lo hi : Int) : Bool := match d with
  | .int i => decide (lo ≤ i) && decide (i ≤ hi)
  | _ => false
def numD (d : PyData) : Bool := isiD "int" d && !isiD "bool" d
theorem numD_within {d : PyData} {lo hi : Int} (h : numD d = false) : withinD d lo hi = false := by
  cases d <;> first | rfl | (simp [numD, isiD, kindD] at h)
theorem numD_int {d : PyData} (h : numD d = true) : ∃ i, d = .int i := by
  cases d with
  | int i => exact ⟨i, rfl⟩
  | _ => simp [numD, isiD, kindD] at h
/-- an arrangement of n lanes -/
def ArrOk (n : Nat) (d : PyData) : Prop := ∃ ns : List Int, d = .tuple (ns.map .int) ∧ ns.Perm (upto n)
def tellI (k : Nat) (x : Str) : PyData := .tuple [.int k, .str x]
/-- the first item that is not so -/
def First (p : PyData → Prop) (ds : List PyData) (x : Str) (r : PyData) : Prop := (r = .none ∧ ∀ d ∈ ds, p d) ∨ ∃ (k : Nat) (d : PyData), r = tellI k x ∧ ds[k]? = some d ∧ ¬ p d ∧ ∀ (j : Nat) (e : PyData), j < k → ds[j]? = some e → p e
theorem First.uniq {p : PyData → Prop} {ds : List PyData} {x : Str} {r q : PyData} (a : First p ds x r) (b : First p ds x q) : r = q := by
  rcases a with ⟨rfl, h⟩ | ⟨k, d, rfl, h1, h2, h3⟩
  · rcases b with ⟨rfl, _⟩ | ⟨k, d, rfl, h1, h2, h3⟩
    · rfl
    · exact absurd (h d (List.mem_of_getElem? h1)) h2
  · rcases b with ⟨rfl, h⟩ | ⟨k', d', rfl, g1, g2, g3⟩
    · exact absurd (h d (List.mem_of_getElem? h1)) h2
    · rcases Nat.lt_trichotomy k k' with q | q | q
      · exact absurd (g3 k d q h1) h2
      · rw [q]
      · exact absurd (h3 k' d' q g1) g2
def RuleRes (d r : PyData) : Prop := match d with
  | .tuple ds => if 2 ≤ ds.length ∧ ds.length ≤ 7 then First (ArrOk (ds.length - 1)) ds "preference" r else r = .tuple [.none, .str "rule"]
  | _ => r = .tuple [.none, .str "rule"]
def RowRes (n : Nat) (d r : PyData) : Prop := match d with
  | .tuple ds => if 1 ≤ ds.length ∧ ds.length ≤ 40 then First (fun e => withinD e 0 ((n : Int) - 1) = true) ds "lane" r else r = .tuple [.none, .str "row"]
  | _ => r = .tuple [.none, .str "row"]
theorem RuleRes.uniq {d r q : PyData} (a : RuleRes d r) (b : RuleRes d q) : r = q := by
  cases d with
  | tuple ds =>
    unfold RuleRes at a b
    simp only at a b
    split at a
    · rename_i h
      rw [if_pos h] at b
      exact a.uniq b
    · rename_i h
      rw [if_neg h] at b
      exact a.trans b.symm
  | _ => exact (show r = _ from a).trans (show q = _ from b).symm
theorem RowRes.uniq {n : Nat} {d r q : PyData} (a : RowRes n d r) (b : RowRes n d q) : r = q := by
  cases d with
  | tuple ds =>
    unfold RowRes at a b
    simp only at a b
    split at a
    · rename_i h
      rw [if_pos h] at b
      exact a.uniq b
    · rename_i h
      rw [if_neg h] at b
      exact a.trans b.symm
  | _ => exact (show r = _ from a).trans (show q = _ from b).symm
theorem upto_nodup (n : Nat) : (upto n).Nodup := by
  unfold upto
  exact List.Pairwise.map _ (fun a b hab z => hab (Int.ofNat.inj z)) List.nodup_range
theorem perm_upto {ns : List Int} {n : Nat} (hl : ns.length = n) (h : ∀ x ∈ ns, 0 ≤ x ∧ x < n) : ns.Nodup ↔ ns.Perm (upto n) := by
  constructor
  · intro nd
    exact perm_in nd (fun k hk => mem_upto.mpr (h k hk)) (by rw [upto_len]; omega)
  · intro p
    exact p.nodup_iff.mpr (upto_nodup n)
/-- items that are all numbers -/
theorem all_ints {H : Hp} : ∀ {xs : List V} {ds : List PyData} {lo hi : Int}, DvAll H xs ds → (∀ d ∈ ds, withinD d lo hi = true) → ∃ ns : List Int, xs = ns.map V.int ∧ ds = ns.map .int ∧ ∀ x ∈ ns, lo ≤ x ∧ x ≤ hi
  | _, _, _, _, .nil, _ => ⟨[], rfl, rfl, fun _ z => (nomatch z)⟩
  | _, _, lo, hi, .cons (d := d) a t, h => by
    obtain ⟨ns, rfl, rfl, hn⟩ := all_ints t fun e he => h e (by simp [he])
    have hd := h d (by simp)
    cases d with
    | int i =>
      cases a
      simp only [withinD, Bool.and_eq_true, decide_eq_true_eq] at hd
      refine ⟨i :: ns, rfl, rfl, fun x hx => ?_⟩
      rcases List.mem_cons.mp hx with rfl | hx
      · exact hd
      · exact hn x hx
    | _ => simp [withinD] at hd
theorem not_tup {d : PyData} (h : isiD "tuple" d = false) : ∀ ds, d ≠ .tuple ds := by
  rintro ds rfl
  simp [isiD, kindD] at h
theorem is_tup {d : PyData} (h : isiD "tuple" d = true) : ∃ ds, d = .tuple ds := by
  cases d with
  | tuple ds => exact ⟨ds, rfl⟩
  | _ => simp [isiD, kindD] at h
theorem ints_inj : ∀ {ns ms : List Int}, ns.map PyData.int = ms.map PyData.int → ns = ms
  | [], [], _ => rfl
  | [], _ :: _, h => by simp at h
  | _ :: _, [], h => by simp at h
  | a :: r, b :: t, h => by
    rw [List.map_cons, List.map_cons] at h
    injection h with h1 h2
    injection h1 with h1
    rw [h1, ints_inj h2]
abbrev sIsNum : Stmt := topS 5
abbrev nIsNum : List Str := ["value"]
theorem scIsNum : FnScope nIsNum ["value"] (defScope sIsNum) :=
  ⟨rfl, rfl, rfl, by decide +kernel, rfl, by decide +kernel, by decide +kernel⟩
abbrev sWithin : Stmt := topS 6
abbrev nWithin : List Str := ["value", "low", "high"]
theorem scWithin : FnScope nWithin ["value", "low", "high"] (defScope sWithin) :=
  ⟨rfl, rfl, rfl, by decide +kernel, rfl, by decide +kernel, by decide +kernel⟩
abbrev sArr : Stmt := topS 7
abbrev nArr : List Str := ["value", "count", "item"]
theorem scArr : FnScope nArr ["value", "count"] (defScope sArr) :=
  ⟨rfl, rfl, rfl, by decide +kernel, rfl, by decide +kernel, by decide +kernel⟩
section
variable {P : Program} {w : World} {K : PySem.W.Frag} {mg : Str → Option Value} {base : Heap}
def spNum : Sp := fun vs H Q _ => ∃ v d, vs = [v] ∧ Dv H v d ∧ ∀ H', Ex H H' → Q (.bl (numD d)) H'
theorem ok_num {f : Addr} {fd : FuncData} (F : Fun K "is_number" "is_number" sIsNum f fd) (T : Blt mg) : FnOk P w K mg base CX0 1 f fd ["value"] spNum := by
  refine F.ok scIsNum (fun vs H Q E h => ?_) (fun cdv A outer s H vs Q E hr h => ?_)
  · obtain ⟨v, d, rfl, _⟩ := h
    rfl
  obtain ⟨v, d, rfl, hd, k⟩ := h
  have k2 := k H (Evl.Ex.refl H)
  unfold numD at k2
  refine ⟨_, (pss_one (ps_ret (pe_and (pe_callB (k_isi (K := K) rfl) rfl T.isinstance bt_isinstance (pa_cons (pv 0) (pa_cons (pe_bltn (v := .ty "int") rfl T.int (by decide +kernel) rfl) pa_nil))) (pe_one (pe_not (pe_callB (k_isi (K := K) rfl) rfl T.isinstance bt_isinstance (pa_cons (pv 0) (pa_cons (pe_bltn (v := .ty "bool") rfl T.bool (by decide +kernel) rfl) pa_nil)))))))), ?_⟩
  refine ⟨_, rfl, v, .ty "int", _, _, _, rfl, .ty "int", ty_of hd, kit_D "int" d, _, rfl, ?_⟩
  cases hi : isiD "int" d with
  | false =>
    rw [hi] at k2
    exact iteF k2
  | true =>
    rw [hi] at k2
    exact iteT ⟨_, rfl, v, .ty "bool", _, _, _, rfl, .ty "bool", ty_of hd, kit_D "bool" d, _, rfl, k2⟩
def spWithin : Sp := fun vs H Q _ => ∃ v d lo hi, vs = [v, .int lo, .int hi] ∧ Dv H v d ∧ ∀ H', Ex H H' → Q (.bl (withinD d lo hi)) H'
theorem ok_within {f : Addr} {fd : FuncData} (F : Fun K "is_within" "is_within" sWithin f fd) (T : Blt mg) (cis_number : Cal P w K mg base 1 "is_number" ["value"] spNum) : FnOk P w K mg base CX0 2 f fd ["value", "low", "high"] spWithin := by
  refine F.ok scWithin (fun vs H Q E h => ?_) (fun cdv A outer s H vs Q E hr h => ?_)
  · obtain ⟨v, d, lo, hi, rfl, _⟩ := h
    rfl
  obtain ⟨v, d, lo, hi, rfl, hd, k⟩ := h
  refine ⟨_, (pss_one (ps_ret (pe_and (pe_cal cis_number (hr.mono (by decide)) rfl (pa_cons (pv 0) pa_nil)) (pe_one (pe_chain op_le op_le (pv 1) (pv 0) (pv 2)))))), ?_⟩
  refine ⟨_, rfl, v, d, rfl, hd, fun H1 e1 => ⟨_, rfl, ?_⟩⟩
  cases hn : numD d with
  | false =>
    have q := k H1 e1
    rw [numD_within hn] at q
    exact iteF q
  | true =>
    obtain ⟨i, rfl⟩ := numD_int hn
    cases hd
    refine iteT ⟨_, rfl, _, rfl, _, _, rfl, rfl, _, rfl, ?_⟩
    have q := k H1 e1
    unfold withinD at q
    simp only at q
    cases hl : decide (lo ≤ i) with
    | false =>
      rw [hl] at q
      exact iteF q
    | true =>
      rw [hl] at q
      exact iteT ⟨_, rfl, _, _, rfl, rfl, q⟩
def spArr : Sp := fun vs H Q _ => ∃ (v : V) (d : PyData) (n : Nat), vs = [v, .int n] ∧ Dv H v d ∧ n ≤ 1000 ∧ ∀ b H', Ex H H' → (b = true ↔ ArrOk n d) → Q (.bl b) H'
theorem ok_arr {f : Addr} {fd : FuncData} (F : Fun K "is_arrangement" "is_arrangement" sArr f fd) (T : Blt mg) (cis_within : Cal P w K mg base 2 "is_within" ["value", "low", "high"] spWithin) : FnOk P w K mg base CX0 3 f fd ["value", "count"] spArr := by
  refine F.ok scArr (fun vs H Q E h => ?_) (fun cdv A outer s H vs Q E hr h => ?_)
  · obtain ⟨v, d, n, rfl, _⟩ := h
    rfl
  obtain ⟨v, d, n, rfl, hd, hn, k⟩ := h
  refine ⟨_, (pss_cons (ps_if (PW.pt (pw_or (pt_not (pt_val (pe_callB (k_isi (K := K) rfl) rfl T.isinstance bt_isinstance (pa_cons (pv 0) (pa_cons (pe_bltn (v := .ty "tuple") rfl T.tuple (by decide +kernel) rfl) pa_nil))))) (pw_or1 (pt_cmpR op_ne (pe_callB (k_len (K := K) rfl) rfl T.len bt_len (pa_cons (pv 0) pa_nil)) (pv 1) (nomark _))))) (pss_one (ps_ret pe_bl)) pss_nil)
    (pss_cons (ps_if (pt_not (pt_val (pe_callB (k_all (K := K) rfl rfl) rfl T.all bt_all (pa_cons (pe_lc (own := [("item", 2)]) (g := gName 2)  (by rfl) scArr.nd (ki_tup (K := K) rfl (pv 0)) (blkOk_by (own := [("item", 2)]) (N := nArr) (sc := defScope sArr) (by decide +kernel)) (fun _ _ _ _ _ => (pg_name (i := 2) scArr.nd rfl (Or.inl rfl))) (fun _ _ _ _ _ => pts_nil) (fun _ _ _ _ _ => (pe_cal cis_within (hr.mono (by decide)) rfl (pa_cons (pv 2) (pa_cons pe_int (pa_cons (pe_op op_sub (pv 1) pe_int) pa_nil)))))) pa_nil)))) (pss_one (ps_ret pe_bl)) pss_nil)
    (pss_one (ps_ret (pe_cmpR op_eq (pe_lenSetT (K := K) rfl rfl T.len rfl T.set (pv 0)) (pv 1) (nomark _)))))), ?_⟩
  refine ⟨_, rfl, v, .ty "tuple", _, _, _, rfl, .ty "tuple", ty_of hd, kit_D "tuple" d, _, rfl, ?_⟩
  cases ht : isiD "tuple" d with
  | false =>
    refine iteT (iteT (k false H (Evl.Ex.refl H) ?_))
    constructor
    · intro z; cases z
    · rintro ⟨ns, e, _⟩; exact absurd e (not_tup ht _)
  | true =>
    obtain ⟨ds, rfl⟩ := is_tup ht
    obtain ⟨a, xs, rfl, ha, hx⟩ := tup_inv hd
    have hl := hx.len
    refine iteF ⟨_, rfl, a, xs, rfl, .inr (ha.sq), _, rfl, rfl, _, rfl, ?_⟩
    by_cases hc : xs.length = n
    · have : decide (V.int (xs.length : Int) = V.int (n : Int)) = true := decide_eq_true (by rw [hc])
      rw [this]
      refine iteF ?_
      -- all([is_within(item, 0, count - 1) for item in value])
      refine ⟨_, rfl, a, rfl, ⟨_, ha.sq⟩, fun D hD => made_tup (fun i v _ => ∃ e, ds[i]? = some e ∧ v = .bl (withinD e 0 ((n : Int) - 1))) hD (ha.sq) (by omega) (fun _ _ _ _ _ _ _ m => m) (fun _ => rfl) (fun i x hi H1 e1 Q1 q1 => ?_) (fun ys H1 hy e1 hD1 hm => ?_)⟩
      · obtain ⟨e, he, hde⟩ := hx.get hi
        exact ⟨_, rfl, _, rfl, _, _, rfl, rfl, x, e, 0, _, rfl, hde.mono e1, fun H2 e2 => q1 _ H2 e2 ⟨e, he, rfl⟩⟩
      · have bools : ys = (ds.map fun e => withinD e 0 ((n : Int) - 1)).map V.bl := by
          apply List.ext_getElem?
          intro i
          rw [List.getElem?_map, List.getElem?_map]
          cases hyi : ys[i]? with
          | none =>
            have := List.getElem?_eq_none_iff.mp hyi
            rw [List.getElem?_eq_none (by omega)]
            rfl
          | some y =>
            obtain ⟨e, he, rfl⟩ := hm i y hyi
            rw [he]
            rfl
        refine ⟨D, ds.map fun e => withinD e 0 ((n : Int) - 1), rfl, SqL.of (by rw [hD1, bools]), _, rfl, ?_⟩
        cases hall : ((ds.map fun e => withinD e 0 ((n : Int) - 1)).all id) with
        | false =>
          refine iteT (k false H1 e1 ?_)
          constructor
          · intro z; cases z
          · rintro ⟨ns, e, hp⟩
            have : ((ds.map fun e => withinD e 0 ((n : Int) - 1)).all id) = true := by
              rw [List.all_eq_true]
              intro b hb
              obtain ⟨e2, he2, rfl⟩ := List.mem_map.mp hb
              have e3 : ds = ns.map .int := by injection e
              rw [e3] at he2
              obtain ⟨x, hx2, rfl⟩ := List.mem_map.mp he2
              have := mem_upto.mp (hp.mem_iff.mp hx2)
              simp only [withinD, id, Bool.and_eq_true, decide_eq_true_eq]
              omega
            rw [this] at hall
            cases hall
        | true =>
          have each : ∀ d ∈ ds, withinD d 0 ((n : Int) - 1) = true := fun d hdm => by
            rw [List.all_eq_true] at hall
            exact hall _ (List.mem_map.mpr ⟨d, hdm, rfl⟩)
          obtain ⟨ns, rfl, rfl, hin⟩ := all_ints hx each
          have nl : ns.length = n := by rw [List.length_map] at hc; exact hc
          refine iteF ⟨_, rfl, a, ns, rfl, (ha.ex e1).sq, by omega, fun m hm2 => ⟨_, rfl, rfl, k _ H1 e1 ?_⟩⟩
          rw [decide_eq_true_iff]
          have pu := perm_upto nl fun x hx => by have := hin x hx; omega
          constructor
          · intro z
            have z2 := V.int.inj z
            exact ⟨ns, rfl, pu.mp (hm2.mp (by omega))⟩
          · rintro ⟨ns2, e, hp⟩
            have e3 : ns = ns2 := by
              injection e with e
              exact ints_inj e
            subst e3
            exact congrArg V.int (by have := hm2.mpr (pu.mpr hp); omega)
    · have : decide (V.int (xs.length : Int) = V.int (n : Int)) = false := decide_eq_false (fun z => hc (by have := V.int.inj z; omega))
      rw [this]
      refine iteT (k false H (Evl.Ex.refl H) ?_)
      constructor
      · intro z; cases z
      · rintro ⟨ns, e, hp⟩
        have e3 : ds = ns.map .int := by injection e
        have := hp.length_eq
        rw [upto_len] at this
        rw [e3, List.length_map] at hl
        exact absurd (by omega) hc
end
end Lr

namespace Lr
open PySem L2
theorem eqv_ints : ∀ (as bs : List Int), PyData.eqvAll (as.map .int) (bs.map .int) = decide (as = bs)
  | [], [] => by simp [PyData.eqvAll]
  | [], _ :: _ => by simp [PyData.eqvAll]
  | _ :: _, [] => by simp [PyData.eqvAll]
  | a :: r, b :: t => by
    simp only [List.map_cons, PyData.eqvAll, eqv_ints r t]
    simp only [PyData.eqv, List.cons.injEq, Bool.decide_and]
    rfl
theorem upto_sorted (n : Nat) : (upto n).Pairwise (· ≤ ·) := by
  unfold upto
  exact List.Pairwise.map _ (fun a b hab => by simpa using Nat.le_of_lt hab) List.pairwise_lt_range
theorem sorted_uniq : ∀ {as bs : List Int}, as.Perm bs → as.Pairwise (· ≤ ·) → bs.Pairwise (· ≤ ·) → as = bs := by
  intro as bs p a b
  exact p.eq_of_pairwise (le := (· ≤ ·)) (fun x y _ _ h1 h2 => Int.le_antisymm h1 h2) a b
abbrev sOrder : Stmt := topS 15
abbrev nOrder : List Str := ["row", "value"]
theorem scOrder : FnScope nOrder ["row", "value"] (defScope sOrder) :=
  ⟨rfl, rfl, rfl, by decide +kernel, rfl, by decide +kernel, by decide +kernel⟩
section
variable {P : Program} {w : World} {K : PySem.W.Frag} {mg : Str → Option Value} {base : Heap}
def spOrder : Sp := fun vs H Q _ => ∃ (r : Addr) (v : V) (d : PyData) (xs : List V), vs = [.ref r, v] ∧ H r = some (.tup xs) ∧ xs.length < 64 ∧ Dv H v d ∧ ∀ b H', Ex H H' → (b = true ↔ ArrOk xs.length d) → Q (.bl b) H'
theorem ok_order {f : Addr} {fd : FuncData} (F : Fun K "is_order" "is_order" sOrder f fd) (T : Blt mg) (cis_arrangement : Cal P w K mg base 3 "is_arrangement" ["value", "count"] spArr) : FnOk P w K mg base CX0 4 f fd ["row", "value"] spOrder := by
  refine F.ok scOrder (fun vs H Q E h => ?_) (fun cdv A outer s H vs Q E hr h => ?_)
  · obtain ⟨r, v, d, xs, rfl, _⟩ := h
    rfl
  obtain ⟨r, v, d, xs, rfl, hx, hl, hd, k⟩ := h
  refine ⟨_, (pss_one (ps_ret (pe_cal cis_arrangement (hr.mono (by decide)) rfl (pa_cons (pv 1) (pa_cons (pe_callB (k_len (K := K) rfl) rfl T.len bt_len (pa_cons (pv 0) pa_nil)) pa_nil))))), ?_⟩
  exact ⟨_, rfl, _, rfl, r, xs, rfl, .inr (SqT.of hx), v, d, xs.length, rfl, hd, by omega, k⟩
end
end Lr

namespace Lr
open PySem L2
abbrev sCheck : Stmt := topS 16
abbrev nCheck : List Str := ["row", "order"]
theorem scCheck : FnScope nCheck ["row", "order"] (defScope sCheck) :=
  ⟨rfl, rfl, rfl, by decide +kernel, rfl, by decide +kernel, by decide +kernel⟩
section
variable {P : Program} {w : World} {K : PySem.W.Frag} {mg : Str → Option Value} {base : Heap}
def spCheck : Sp := fun vs H Q _ => ∃ (r : Addr) (v : V) (d : PyData) (xs : List V), vs = [.ref r, v] ∧ H r = some (.tup xs) ∧ xs.length < 64 ∧ Dv H v d ∧ ArrOk xs.length d ∧ ∀ H', Ex H H' → Q .non H'
theorem ok_check {f : Addr} {fd : FuncData} (F : Fun K "check_order" "check_order" sCheck f fd) (T : Blt mg) (cis_order : Cal P w K mg base 4 "is_order" ["row", "value"] spOrder) : FnOk P w K mg base CX0 5 f fd ["row", "order"] spCheck := by
  refine F.ok scCheck (fun vs H Q E h => ?_) (fun cdv A outer s H vs Q E hr h => ?_)
  · obtain ⟨r, v, d, xs, rfl, _⟩ := h
    rfl
  obtain ⟨r, v, d, xs, rfl, hx, hl, hd, ha, k⟩ := h
  refine ⟨_, (pss_one (ps_if (pt_not (pt_val (pe_cal cis_order (hr.mono (by decide)) rfl (pa_cons (pv 0) (pa_cons (pv 1) pa_nil))))) (pss_one ps_never) pss_nil)), ?_⟩
  refine ⟨_, rfl, _, rfl, r, v, d, xs, rfl, hx, hl, hd, fun b H' e hb => ?_⟩
  have eb : b = true := hb.mpr ha
  subst eb
  exact ⟨_, rfl, iteF (k H' e)⟩
end
end Lr

namespace Lr
open PySem L2
/-! ### words: true an arrival, false a passing -/
def code (b : Bool) : Nat := if b then 97 else 112
def enc (bs : List Bool) : Str := ⟨(bs.map code).toArray⟩
theorem enc_a (bs : List Bool) : enc bs ++ ("a" : Str) = enc (bs ++ [true]) := by
  have e : ("a" : Str) = ⟨#[97]⟩ := by decide +kernel
  rw [e]
  show Str.mk _ = Str.mk _
  simp [enc, code]
theorem enc_p (bs : List Bool) : enc bs ++ ("p" : Str) = enc (bs ++ [false]) := by
  have e : ("p" : Str) = ⟨#[112]⟩ := by decide +kernel
  rw [e]
  show Str.mk _ = Str.mk _
  simp [enc, code]
theorem enc_len (bs : List Bool) : (enc bs).length = bs.length := by
  show (enc bs).cps.size = _
  simp [enc]
theorem enc_nil : ("" : Str) = enc [] := by decide +kernel
theorem enc_at {bs : List Bool} {i c : Nat} (h : (enc bs).cps[i]? = some c) : ∃ b, bs[i]? = some b ∧ c = code b := by
  simp only [enc, List.getElem?_toArray, List.getElem?_map] at h
  cases hb : bs[i]? with
  | none => rw [hb] at h; cases h
  | some b => rw [hb] at h; cases h; exact ⟨b, rfl, rfl⟩
theorem code_a : ∀ b : Bool, decide ((V.str ⟨#[code b]⟩ : V) = .str "a") = b := by decide +kernel
def Good (bs : List Bool) : Prop := ∀ i, bs[i]? = some false → (bs.take i).count false < (bs.take i).count true
def Hist (n : Nat) (bs : List Bool) : Prop := bs.count true = n ∧ bs.count false = n ∧ Good bs
theorem good_nil : Good [] := fun i h => by simp at h
theorem good_a {bs : List Bool} (h : Good bs) : Good (bs ++ [true]) := fun i hi => by
  by_cases lt : i < bs.length
  · rw [List.getElem?_append_left lt] at hi
    rw [List.take_append_of_le_length (by omega)]
    exact h i hi
  · rw [List.getElem?_append_right (by omega)] at hi
    cases q : i - bs.length with
    | zero => rw [q] at hi; simp at hi
    | succ k => rw [q] at hi; simp at hi
theorem good_p {bs : List Bool} (h : Good bs) (hc : bs.count false < bs.count true) : Good (bs ++ [false]) := fun i hi => by
  by_cases lt : i < bs.length
  · rw [List.getElem?_append_left lt] at hi
    rw [List.take_append_of_le_length (by omega)]
    exact h i hi
  · have e : i = bs.length := by
      have := (List.getElem?_eq_some_iff.mp hi).1
      simp at this
      omega
    subst e
    rw [List.take_left]
    exact hc
theorem counts_len : ∀ bs : List Bool, bs.count true + bs.count false = bs.length
  | [] => rfl
  | true :: r => by have := counts_len r; simp; omega
  | false :: r => by have := counts_len r; simp; omega
abbrev sWord : Stmt := topS 28
abbrev nWord : List Str := ["_law_urn_here", "_law_many", "_law_found", "_law_here", "_law_left", "_law_soon"]
theorem scWord : FnScope nWord ["_law_urn_here", "_law_many"] (defScope sWord) :=
  ⟨rfl, rfl, rfl, by decide +kernel, rfl, by decide +kernel, by decide +kernel⟩
section
variable {P : Program} {w : World} {K : PySem.W.Frag} {mg : Str → Option Value} {base : Heap}
def spWord (P : Program) (w : World) : Sp := fun vs H Q _ => ∃ (c l : Addr) (n T : Nat), vs = [.ref c, .int n] ∧ UrnAt P w H c l T ∧ T ≤ 800000000 ∧ n ≤ 1000 ∧ ∀ bs H', Ed P w c l (T + 1 + 2 * n) H H' → Hist n bs → Q (.str (enc bs)) H'
theorem ok_word {f : Addr} {fd : FuncData} (F : Fun K "_law_word" "_law_word" sWord f fd) (T : Blt mg) (c_law_pull : Cal P w K mg base 1 "_law_pull" ["_law_urn_here", "_law_many"] (spPull P w)) :
    FnOk P w K mg base CX0 2 f fd ["_law_urn_here", "_law_many"] (spWord P w) := by
  refine F.ok scWord (fun vs H Q E h => ?_) (fun cdv A outer s H vs Q E hr h => ?_)
  · obtain ⟨c, l, n, T, rfl, _⟩ := h
    rfl
  obtain ⟨c, l, n, T0, rfl, C, hT, hn, k⟩ := h
  refine ⟨_, (pss_cons (ps_asg (pe_tup (pa_cons pe_str (pa_cons pe_int (pa_cons (pv 1) (pa_cons (pe_cal c_law_pull (hr.mono (by decide)) rfl (pa_cons (pv 0) (pa_cons pe_int pa_nil))) pa_nil))))) (pg_tup rfl (pgs_cons (pg_name (i := 2) scWord.nd rfl (Or.inl rfl)) (pgs_cons (pg_name (i := 3) scWord.nd rfl (Or.inl rfl)) (pgs_cons (pg_name (i := 4) scWord.nd rfl (Or.inl rfl)) (pgs_cons (pg_name (i := 5) scWord.nd rfl (Or.inl rfl)) pgs_nil))))))
    (pss_cons (ps_while PassesOwn.never (pt_cmpR op_lt (pe_callB call_len_str rfl T.len bt_len (pa_cons (pv 2) pa_nil)) (pe_op op_mul pe_int (pv 1)) (nomark _)) (pss_one (ps_if (PW.pt (pw_and (pt_cmpR op_gt (pv 4) pe_int (nomark _)) (pw_and1 (PW.pt (pw_or (pt_cmpR op_eq (pv 3) pe_int (nomark _)) (pw_or1 (pt_cmpR op_ge (pe_cal c_law_pull (hr.mono (by decide)) rfl (pa_cons (pv 0) (pa_cons pe_int pa_nil))) (pv 5) (nomark _)))))))) (pss_one (ps_par3 (i := 2) (j := 3) (l := 4) rfl scWord.nd rfl rfl rfl (by decide) (by decide) (by decide) rfl rfl rfl (pa_cons (pe_op op_add_str (pv 2) pe_str) (pa_cons (pe_op op_add (pv 3) pe_int) (pa_cons (pe_op op_sub (pv 4) pe_int) pa_nil))) rfl)) (pss_one (ps_par (i := 2) (j := 3) rfl scWord.nd rfl rfl (by decide) rfl rfl (pa_cons (pe_op op_add_str (pv 2) pe_str) (pa_cons (pe_op op_sub (pv 3) pe_int) pa_nil)) rfl)))))
    (pss_one (ps_ret (pv 2))))), ?_⟩
  refine ⟨_, rfl, _, rfl, c, l, _, T0, rfl, C, by omega, by decide, by decide, fun so H1 e1 s0 s1 => ⟨(by show 4 ≤ sizeLine; decide), fun tp htp => ⟨tp, _, rfl, SqT.of upd_same, rfl, _, _, rfl, _, _, rfl, _, _, rfl, _, _, rfl, rfl, ?_⟩⟩⟩
  refine ⟨fun t σ H' => ∃ bs : List Bool, t = 2 * n - bs.length ∧ σ = [some (.ref c), some (.int n), some (.str (enc bs)), some (.int ((bs.count true : Int) - (bs.count false : Int))), some (.int ((n : Int) - (bs.count true : Int))), some (.int so)] ∧ Good bs ∧ bs.count true ≤ n ∧ bs.count false ≤ bs.count true ∧ Ed P w c l (T0 + 1 + bs.length) H H',
    ⟨_, [], rfl, by rw [← enc_nil]; rfl, good_nil, by simp, by simp, e1.new htp⟩, ?_⟩
  have stepA : ∀ (bs : List Bool) (H' : Hp), Good bs → bs.count true < n → bs.count false ≤ bs.count true → bs.length < 2 * n → Ed P w c l (T0 + 1 + bs.length + 1) H H' → ∃ m, m < 2 * n - bs.length ∧ ∃ bs' : List Bool, m = 2 * n - bs'.length ∧ [some (.ref c), some (.int n), some (.str (enc bs ++ "a")), some (.int ((bs.count true : Int) - (bs.count false : Int) + 1)), some (.int ((n : Int) - (bs.count true : Int) - 1)), some (.int so)] = [some (V.ref c), some (.int n), some (.str (enc bs')), some (.int ((bs'.count true : Int) - (bs'.count false : Int))), some (.int ((n : Int) - (bs'.count true : Int))), some (.int so)] ∧ Good bs' ∧ bs'.count true ≤ n ∧ bs'.count false ≤ bs'.count true ∧ Ed P w c l (T0 + 1 + bs'.length) H H' := by
    intro bs H' hg h1 h2 h3 e
    refine ⟨_, ?_, bs ++ [true], rfl, ?_, good_a hg, by simp; omega, by simp; omega, e.le (by simp; omega)⟩
    · simp; omega
    · rw [enc_a]
      have q1 : ((bs ++ [true]).count true : Int) - ((bs ++ [true]).count false : Int) = (bs.count true : Int) - (bs.count false : Int) + 1 := by simp; omega
      have q2 : (n : Int) - ((bs ++ [true]).count true : Int) = (n : Int) - (bs.count true : Int) - 1 := by simp; omega
      rw [q1, q2]
  have stepP : ∀ (bs : List Bool) (H' : Hp), Good bs → bs.count true ≤ n → bs.count false < bs.count true → bs.length < 2 * n → Ed P w c l (T0 + 1 + bs.length + 1) H H' → ∃ m, m < 2 * n - bs.length ∧ ∃ bs' : List Bool, m = 2 * n - bs'.length ∧ [some (.ref c), some (.int n), some (.str (enc bs ++ "p")), some (.int ((bs.count true : Int) - (bs.count false : Int) - 1)), some (.int ((n : Int) - (bs.count true : Int))), some (.int so)] = [some (V.ref c), some (.int n), some (.str (enc bs')), some (.int ((bs'.count true : Int) - (bs'.count false : Int))), some (.int ((n : Int) - (bs'.count true : Int))), some (.int so)] ∧ Good bs' ∧ bs'.count true ≤ n ∧ bs'.count false ≤ bs'.count true ∧ Ed P w c l (T0 + 1 + bs'.length) H H' := by
    intro bs H' hg h1 h2 h3 e
    refine ⟨_, ?_, bs ++ [false], rfl, ?_, good_p hg h2, by simp; omega, by simp; omega, e.le (by simp; omega)⟩
    · simp; omega
    · rw [enc_p]
      have q1 : ((bs ++ [false]).count true : Int) - ((bs ++ [false]).count false : Int) = (bs.count true : Int) - (bs.count false : Int) - 1 := by simp; omega
      have q2 : (n : Int) - ((bs ++ [false]).count true : Int) = (n : Int) - (bs.count true : Int) := by simp
      rw [q1, q2]
  rintro t σ H' ⟨bs, rfl, rfl, hg, hca, hcp, e⟩
  have hlen := counts_len bs
  have sz : ∀ {x : Nat}, x ≤ 3000 → x ≤ sizeLine := fun h => Nat.le_trans h (by decide)
  refine ⟨_, rfl, _, rfl, sz (by rw [enc_len]; omega), _, rfl, _, _, rfl, rfl, .inl (by decide), _, _, rfl, rfl, _, rfl, ?_⟩
  rw [enc_len]
  refine ite2 (fun hlt => ?_) (fun hge => ?_)
  · have hlt : bs.length < 2 * n := by have := of_decide_eq_true hlt; omega
    refine ⟨_, fun σ' H' h => h, ?_⟩
    have l1 : (enc bs).length + ("a" : Str).length ≤ sizeLine := sz (by rw [enc_len, show ("a" : Str).length = 1 from by decide +kernel]; omega)
    have l2 : (enc bs).length + ("p" : Str).length ≤ sizeLine := sz (by rw [enc_len, show ("p" : Str).length = 1 from by decide +kernel]; omega)
    -- left > 0 and (here == 0 or pull(urn, 4) >= soon)
    refine ⟨_, rfl, _, _, rfl, rfl, _, rfl, ?_⟩
    refine ite2 (fun hl => ?_) (fun hl => ?_)
    · have hl : bs.count true < n := by have := of_decide_eq_true hl; omega
      refine ⟨_, rfl, rfl, _, rfl, ?_⟩
      refine ite2 (fun hh => ?_) (fun hh => ?_)
      · refine iteT ⟨_, rfl, _, _, rfl, rfl, l1, _, rfl, _, _, rfl, rfl, _, rfl, _, _, rfl, rfl, _, _, _, rfl, ?_⟩
        exact stepA bs H' hg hl hcp hlt (e.le (by omega))
      · have hh : bs.count true ≠ bs.count false := fun z => hh (decide_eq_true (by rw [z]; simp))
        refine ⟨_, rfl, c, l, _, _, rfl, e.urn, by omega, by decide, by decide, fun r H2 e2 r0 r1 => ⟨_, rfl, _, _, rfl, rfl, _, rfl, ?_⟩⟩
        have e3 := e.trans e2
        refine ite2 (fun _ => ?_) (fun _ => ?_)
        · refine ⟨_, rfl, _, _, rfl, rfl, l1, _, rfl, _, _, rfl, rfl, _, rfl, _, _, rfl, rfl, _, _, _, rfl, ?_⟩
          exact stepA bs H2 hg hl hcp hlt (e3.le (by omega))
        · refine ⟨_, rfl, _, _, rfl, rfl, l2, _, rfl, _, _, rfl, rfl, _, _, rfl, ?_⟩
          exact stepP bs H2 hg hca (by omega) hlt (e3.le (by omega))
    · have hl : bs.count true = n := by
        have : ¬ (0 : Int) < (n : Int) - (bs.count true : Int) := fun z => hl (decide_eq_true (by omega))
        omega
      refine iteF ⟨_, rfl, _, _, rfl, rfl, l2, _, rfl, _, _, rfl, rfl, _, _, rfl, ?_⟩
      exact stepP bs H' hg hca (by omega) hlt (e.le (by omega))
  · have hge : ¬ bs.length < 2 * n := fun z => hge (decide_eq_true (by omega))
    refine ⟨_, rfl, k bs H' (e.le (by omega)) ⟨by omega, by omega, hg⟩⟩
end
end Lr

namespace Lr
open PySem L2
theorem ins_perm {fs : List Int} {x : Int} {k : Nat} : (fs.take k ++ [x] ++ fs.drop k).Perm (x :: fs) := by
  have h := List.perm_middle (a := x) (l₁ := fs.take k) (l₂ := fs.drop k)
  rw [List.take_append_drop] at h
  simpa using h
theorem flat_put : ∀ {qs : List (List Int)} {L : Nat} {q : List Int} {x : Int}, qs[L]? = some q → (qs.set L (q ++ [x])).flatten.Perm (x :: qs.flatten)
  | [], _, _, _, h => by simp at h
  | p :: r, 0, q, x, h => by
    simp at h
    subst h
    simp only [List.set_cons_zero, List.flatten_cons, List.append_assoc]
    exact List.perm_middle (a := x) (l₁ := p) (l₂ := r.flatten)
  | p :: r, L + 1, q, x, h => by
    have ih := flat_put (qs := r) (L := L) (q := q) (x := x) (by simpa using h)
    simp only [List.set_cons_succ, List.flatten_cons]
    exact (List.Perm.append_left p ih).trans (List.perm_middle (a := x) (l₁ := p) (l₂ := r.flatten))
theorem flat_pop : ∀ {qs : List (List Int)} {L : Nat} {q : List Int} {x : Int}, qs[L]? = some (x :: q) → qs.flatten.Perm (x :: (qs.set L q).flatten)
  | [], _, _, _, h => by simp at h
  | p :: r, 0, q, x, h => by
    simp at h
    subst h
    simp
  | p :: r, L + 1, q, x, h => by
    have ih := flat_pop (qs := r) (L := L) (q := q) (x := x) (by simpa using h)
    simp only [List.set_cons_succ, List.flatten_cons]
    exact (List.Perm.append_left p ih).trans (List.perm_middle (a := x) (l₁ := p) (l₂ := (r.set L q).flatten))
theorem upto_succ (n : Nat) : (upto (n + 1)).Perm ((n : Int) :: upto n) := by
  unfold upto
  rw [List.range_succ, List.map_append]
  exact List.perm_append_comm
abbrev sSwapped : Stmt := topS 30
abbrev nSwapped : List Str := ["_law_urn_here", "_law_order", "_law_found", "_law_turn", "_law_car"]
theorem scSwapped : FnScope nSwapped ["_law_urn_here", "_law_order"] (defScope sSwapped) :=
  ⟨rfl, rfl, rfl, by decide +kernel, rfl, by decide +kernel, by decide +kernel⟩
abbrev sPlayed : Stmt := topS 29
abbrev nPlayed : List Str := ["_law_rule_here", "_law_row_here", "_law_word_here", "_law_order", "_law_counts", "_law_queues", "_law_preference", "_law_letter", "_law_lane", "_law_one"]
theorem scPlayed : FnScope nPlayed ["_law_rule_here", "_law_row_here", "_law_word_here"] (defScope sPlayed) :=
  ⟨rfl, rfl, rfl, by decide +kernel, rfl, by decide +kernel, by decide +kernel⟩
section
variable {P : Program} {w : World} {K : PySem.W.Frag} {mg : Str → Option Value} {base : Heap}
def spSwapped (P : Program) (w : World) : Sp := fun vs H Q _ => ∃ (c l o : Addr) (os : List Int) (T : Nat), vs = [.ref c, .ref o] ∧ UrnAt P w H c l T ∧ T ≤ 800000000 ∧ Tu H o (os.map V.int) ∧ 1 ≤ os.length ∧ os.length ≤ 1000 ∧
  ∀ (q : Addr) (ms : List Int) H', Ed P w c l (T + 5) H H' → Ti H' q (ms.map V.int) → ms.Perm os → Q (.ref q) H'
theorem ok_swapped {f : Addr} {fd : FuncData} (F : Fun K "_law_swapped" "_law_swapped" sSwapped f fd) (T : Blt mg) (c_law_pull : Cal P w K mg base 1 "_law_pull" ["_law_urn_here", "_law_many"] (spPull P w)) :
    FnOk P w K mg base CX0 2 f fd ["_law_urn_here", "_law_order"] (spSwapped P w) := by
  refine F.ok scSwapped (fun vs H Q E h => ?_) (fun cdv A outer s H vs Q E hr h => ?_)
  · obtain ⟨c, l, o, os, T, rfl, _⟩ := h
    rfl
  obtain ⟨c, u, o, os, T0, rfl, C, hT, ho, h1, h2, k⟩ := h
  refine ⟨_, (pss_cons (ps_set (i := 2) scSwapped.nd rfl (Or.inl rfl) (pe_callTy (k_list_of (K := K) rfl) rfl T.list bt_list (pa_cons (pv 1) pa_nil)))
    (pss_cons (ps_for PassesOwn.never rfl (pi_range1 rfl T.range (pa_cons (pe_op op_add pe_int (pe_cal c_law_pull (hr.mono (by decide)) rfl (pa_cons (pv 0) (pa_cons pe_int pa_nil)))) pa_nil)) (pg_name (i := 3) scSwapped.nd rfl (Or.inl rfl)) (pss_cons (ps_set (i := 4) scSwapped.nd rfl (Or.inl rfl) (pe_bm PySem.F.plainAttrs_list PySem.F.slot_list_pop PySem.F.type_list_pop mt_popAt (pv 2) (pa_cons (pe_cal c_law_pull (hr.mono (by decide)) rfl (pa_cons (pv 0) (pa_cons (pe_callB (k_len (K := K) rfl) rfl T.len bt_len (pa_cons (pv 2) pa_nil)) pa_nil))) pa_nil)))
      (pss_one (ps_expr (pe_bm PySem.F.plainAttrs_list PySem.F.slot_list_insert PySem.F.type_list_insert mt_insert (pv 2) (pa_cons (pe_cal c_law_pull (hr.mono (by decide)) rfl (pa_cons (pv 0) (pa_cons (pe_op op_add (pe_callB (k_len (K := K) rfl) rfl T.len bt_len (pa_cons (pv 2) pa_nil)) pe_int) pa_nil))) (pa_cons (pv 4) pa_nil)))))))
    (pss_one (ps_ret (pe_callTy (k_tuple_F (K := K) rfl) rfl T.tuple bt_tuple (pa_cons (pv 2) pa_nil)))))), ?_⟩
  refine ⟨_, rfl, o, _, rfl, .inr ho.sq, fun l hl => ?_⟩
  have C1 := C.ex (Evl.Ex.new hl (o := .lst (os.map V.int)))
  refine ⟨_, rfl, c, u, _, T0, rfl, C1, by omega, by decide, by decide, fun r H1 e1 r0 r1 => ⟨_, _, rfl, rfl, 1 + r, rfl, by omega, by omega, ?_⟩⟩
  have al := e1.sq (upd_same (H := H) (a := l) (o := .lst (os.map V.int)))
  have E1 : Ed P w c u (T0 + 1) H H1 := Ed.pre (Evl.Ex.new hl) C e1
  obtain ⟨n, hn, hn2⟩ : ∃ n : Nat, (1 + r).toNat = n ∧ n ≤ 2 := ⟨_, rfl, by omega⟩
  rw [hn]
  refine for_range (fun i σ H' => (∃ x3 x4 : Option V, σ = [some (.ref c), some (.ref o), some (.ref l), x3, x4]) ∧ ∃ fs : List Int, H' l = some (.lst (fs.map V.int)) ∧ fs.Perm os ∧ Ed P w c u (T0 + 1 + 2 * i) H H') ⟨⟨_, _, rfl⟩, os, al, List.Perm.refl _, E1⟩ ?_ ?_
  · rintro i σ H2 hi ⟨⟨x3, x4, rfl⟩, fs, hf, hp, e⟩
    have hfl := hp.length_eq
    have ll : ((fs.map V.int).length : Int) = fs.length := by rw [List.length_map]
    refine ⟨_, rfl, .inl ⟨rfl, _, SqL.of hf⟩, _, rfl, _, rfl, l, _, rfl, .inl (SqL.of hf), c, u, _, _, rfl, e.urn, by omega, by omega, by omega, fun q H3 e3 q0 q1 => ?_⟩
    rw [ll] at q1
    obtain ⟨x, hx, hE, hP, hI⟩ := pick q0 q1
    refine ⟨l, _, q, q.toNat, .int x, rfl, rfl, e3.sq hf, by omega, by omega, hI, hx, ?_⟩
    rw [hE]
    have E3 := e.trans e3
    have af : upd H3 l (.lst ((fs.eraseIdx q.toNat).map V.int)) l = some (.lst ((fs.eraseIdx q.toNat).map V.int)) := upd_same
    have E4 : Ed P w c u (T0 + 1 + 2 * i + 1) H (upd H3 l (.lst ((fs.eraseIdx q.toNat).map V.int))) := Ed.mut E3 hl
    generalize upd H3 l (.lst ((fs.eraseIdx q.toNat).map V.int)) = H4 at af E4 ⊢
    have hel := hP.length_eq
    simp at hel
    have lg : (((fs.eraseIdx q.toNat).map V.int).length : Int) = ((fs.eraseIdx q.toNat).length : Int) := by rw [List.length_map]
    refine ⟨_, rfl, .inl ⟨rfl, _, SqL.of af⟩, _, rfl, _, rfl, l, _, rfl, .inl (SqL.of af), _, _, rfl, rfl, c, u, _, _, rfl, E4.urn, by omega, by omega, by omega, fun z H5 e5 z0 z1 => ⟨_, rfl, ?_⟩⟩
    refine ⟨l, _, z, _, rfl, rfl, e5.sq af, by rw [List.length_map]; exact Nat.lt_of_le_of_lt (by omega) (by decide : 1000 < sizeLine), z0, by omega, ?_⟩
    refine ⟨⟨_, _, rfl⟩, (fs.eraseIdx q.toNat).take z.toNat ++ [x] ++ (fs.eraseIdx q.toNat).drop z.toNat, ?_, (ins_perm.trans hP).trans hp, (Ed.mut (E4.trans e5) hl).le (by omega)⟩
    rw [upd_same]
    simp [List.map_take, List.map_drop]
  · rintro σ H2 ⟨⟨x3, x4, rfl⟩, fs, hf, hp, e⟩
    exact ⟨_, rfl, l, _, rfl, SqL.of hf, fun p G hp2 e2 hG => k p fs G ((e.ex e2).le (by omega)) hG hp⟩
end
end Lr

namespace Lr
open PySem L2
theorem tc {v : V} {σ : L2.St} {H : Hp} {Q : VK} (h : Q v H) : tC v σ H Q := h
theorem dv_ints_inv {H : Hp} : ∀ {xs : List V} {ns : List Int}, DvAll H xs (ns.map .int) → xs = ns.map V.int
  | [], [], _ => rfl
  | [], _ :: _, h => by cases h
  | _ :: _, [], h => by cases h
  | v :: r, n :: t, h => by
    cases h with
    | cons a b =>
      cases a
      rw [List.map_cons, dv_ints_inv b]
/-- lists in a list -/
structure Qs (H : Hp) (D : Addr) (as : List Addr) (qs : List (List Int)) : Prop where
  d : H D = some (.lst (as.map V.ref))
  len : as.length = qs.length
  at_ : ∀ (j : Nat) (b : Addr) (q : List Int), as[j]? = some b → qs[j]? = some q → H b = some (.lst (q.map V.int))
  nd : as.Nodup
  nD : D ∉ as
theorem nd_at : ∀ {l : List Addr}, l.Nodup → ∀ {i j : Nat} {x : Addr}, l[i]? = some x → l[j]? = some x → i = j
  | [], _, i, _, _, h, _ => by simp at h
  | y :: r, nd, 0, 0, x, _, _ => rfl
  | y :: r, nd, 0, j + 1, x, h, g => by
    have := List.nodup_cons.mp nd
    simp at h g
    subst h
    exact absurd (List.mem_of_getElem? g) this.1
  | y :: r, nd, i + 1, 0, x, h, g => by
    have := List.nodup_cons.mp nd
    simp at h g
    subst g
    exact absurd (List.mem_of_getElem? h) this.1
  | y :: r, nd, i + 1, j + 1, x, h, g => by
    have := nd_at (List.nodup_cons.mp nd).2 (i := i) (j := j) (x := x) (by simpa using h) (by simpa using g)
    omega
section
variable {H H' : Hp} {D p : Addr} {as : List Addr} {qs : List (List Int)} {o : HO}
theorem Qs.ex (q : Qs H D as qs) (e : Ex H H') : Qs H' D as qs := ⟨e _ _ q.d, q.len, fun j b x h g => e _ _ (q.at_ j b x h g), q.nd, q.nD⟩
theorem Qs.ne (q : Qs H D as qs) (h1 : p ≠ D) (h2 : p ∉ as) : Qs (upd H p o) D as qs :=
  ⟨by rw [upd_ne (Ne.symm h1)]; exact q.d, q.len, fun j b x h g => by
    rw [upd_ne (fun z => h2 (by rw [← z]; exact List.mem_of_getElem? h))]
    exact q.at_ j b x h g, q.nd, q.nD⟩
theorem Qs.set {L : Nat} {b : Addr} {x : List Int} (q : Qs H D as qs) (hb : as[L]? = some b) : Qs (upd H b (.lst (x.map V.int))) D as (qs.set L x) := by
  refine ⟨?_, by rw [List.length_set]; exact q.len, fun j c y h g => ?_, q.nd, q.nD⟩
  · rw [upd_ne (fun z => q.nD (by rw [z]; exact List.mem_of_getElem? hb))]
    exact q.d
  · by_cases hj : j = L
    · subst hj
      rw [hb] at h
      cases h
      have lt := (List.getElem?_eq_some_iff.mp hb).1
      rw [List.getElem?_set_self (by rw [← q.len]; exact lt)] at g
      cases g
      exact upd_same
    · rw [List.getElem?_set_ne (Ne.symm hj)] at g
      rw [upd_ne (fun z => hj (nd_at q.nd (by rw [h, z]) hb))]
      exact q.at_ j c y h g
end
section
variable {P : Program} {w : World} {K : PySem.W.Frag} {mg : Str → Option Value} {base : Heap}
def spPlayed : Sp := fun vs H Q _ => ∃ (rv : V) (r : Addr) (n : Nat) (ps : List (List Int)) (rs : List Int) (bs : List Bool), vs = [rv, .ref r, .str (enc bs)] ∧ RuleAt n ps H rv ∧ n ≤ 100 ∧ Tu H r (rs.map V.int) ∧ InLanes n rs ∧ rs.length ≤ 1000 ∧ Hist rs.length bs ∧
  ∀ (p q : Addr) (v : V) (os : List Int) H', Ex H H' → H' p = some (.lst [.ref q, v]) → Ti H' q (os.map V.int) → os.Perm (upto rs.length) → Q (.ref p) H'
theorem ok_played {f : Addr} {fd : FuncData} (F : Fun K "_law_played" "_law_played" sPlayed f fd) (T : Blt mg) : FnOk P w K mg base CX0 1 f fd ["_law_rule_here", "_law_row_here", "_law_word_here"] spPlayed := by
  refine F.ok scPlayed (fun vs H Q E h => ?_) (fun cdv A outer s H vs Q E hr h => ?_)
  · obtain ⟨rv, r, n, ps, rs, bs, rfl, _⟩ := h
    rfl
  obtain ⟨rv, r, n, ps, rs, bs, rfl, hv, hn, hrow, hin, hrl, hh, k⟩ := h
  obtain ⟨ra, xs, rfl, hra, lxn, hxs⟩ := hv.get
  refine ⟨_, (pss_cons (ps_asg (pe_tup (pa_cons (pe_lst pa_nil) (pa_cons (pe_lst pa_nil) (pa_cons (pe_lc (own := [("_law_lane", 8)]) (g := gName 8)  (by rfl) scPlayed.nd (ki_tup (K := K) rfl (pe_ix (kx_tup (K := K) rfl) (pv 0) pe_int (fun _ _ => rfl))) (blkOk_by (own := [("_law_lane", 8)]) (N := nPlayed) (sc := defScope sPlayed) (by decide +kernel)) (fun _ _ _ _ _ => (pg_name (i := 8) scPlayed.nd rfl (Or.inl rfl))) (fun _ _ _ _ _ => pts_nil) (fun _ _ _ _ _ => (pe_lst pa_nil))) (pa_cons (pe_ix (kx_tup (K := K) rfl) (pv 0) pe_int (fun _ _ => rfl)) pa_nil))))) (pg_tup rfl (pgs_cons (pg_name (i := 3) scPlayed.nd rfl (Or.inl rfl)) (pgs_cons (pg_name (i := 4) scPlayed.nd rfl (Or.inl rfl)) (pgs_cons (pg_name (i := 5) scPlayed.nd rfl (Or.inr rfl)) (pgs_cons (pg_name (i := 6) scPlayed.nd rfl (Or.inl rfl)) pgs_nil))))))
    (pss_cons (ps_for PassesOwn.never rfl (pi_str (pv 2)) (pg_name (i := 7) scPlayed.nd rfl (Or.inl rfl)) (pss_one (ps_if (pt_cmpR op_eq (pv 7) pe_str (nomark _)) (pss_cons (ps_expr (pe_bm PySem.F.plainAttrs_list PySem.F.slot_list_append PySem.F.type_list_append mt_append (pe_ix (kx_list (K := K) rfl) (pv 5) (pe_ix (kx_tup (K := K) rfl) (pv 1) (pe_callB (k_len (K := K) rfl) rfl T.len bt_len (pa_cons (pv 4) pa_nil)) (fun _ _ => rfl)) (fun _ _ => rfl)) (pa_cons (pe_callB (k_len (K := K) rfl) rfl T.len bt_len (pa_cons (pv 4) pa_nil)) pa_nil)))
        (pss_one (ps_expr (pe_bm PySem.F.plainAttrs_list PySem.F.slot_list_append PySem.F.type_list_append mt_append (pv 4) (pa_cons (pe_callB (k_len (K := K) rfl) rfl T.len bt_len (pa_cons (pv 3) pa_nil)) pa_nil))))) (pss_cons (ps_set (i := 8) scPlayed.nd rfl (Or.inl rfl) (pe_ix (kx_list (K := K) rfl) (pe_lc (own := [("_law_one", 9)]) (g := gName 9)  (by rfl) scPlayed.nd (ki_tup (K := K) rfl (pv 6)) (blkOk_by (own := [("_law_one", 9)]) (N := nPlayed) (sc := defScope sPlayed) (by decide +kernel)) (fun _ _ _ _ _ => (pg_name (i := 9) scPlayed.nd rfl (Or.inl rfl))) (fun _ _ _ _ _ => pts_one (pt_cmpR (ko_neNil (K := K) rfl hr.units) (pe_ix (kx_list (K := K) rfl) (pv 5) (pv 9) (fun _ _ => rfl)) (pe_lst pa_nil) (nomark _))) (fun _ _ _ _ _ => (pv 9))) pe_int (fun _ _ => rfl)))
        (pss_cons (ps_expr (pe_bm PySem.F.plainAttrs_list PySem.F.slot_list_append PySem.F.type_list_append mt_append (pv 3) (pa_cons (pe_bm PySem.F.plainAttrs_list PySem.F.slot_list_pop PySem.F.type_list_pop mt_popAt (pe_ix (kx_list (K := K) rfl) (pv 5) (pv 8) (fun _ _ => rfl)) (pa_cons pe_int pa_nil)) pa_nil)))
        (pss_one (ps_set (i := 6) scPlayed.nd rfl (Or.inl rfl) (pe_ix (kx_tup (K := K) rfl) (pv 0) (pe_op op_add pe_int (pv 8)) (fun _ _ => rfl)))))))))
    (pss_one (ps_ret (pe_lst (pa_cons (pe_callTy (k_tuple_F (K := K) rfl) rfl T.tuple bt_tuple (pa_cons (pv 3) pa_nil)) (pa_cons (pe_callTy (k_tuple_of (K := K) rfl) rfl T.tuple bt_tuple (pa_cons (pv 4) pa_nil)) pa_nil))))))), ?_⟩
  have z0 : 0 ≤ sizeLine := by decide
  have sz : ∀ {x : Nat}, x ≤ 3000 → x < sizeLine := fun h => Nat.lt_of_le_of_lt h (by decide)
  have rule_ix : ∀ (i : Nat) (G : Hp) (Q1 : VK), i < n + 1 → Ex H G → (∀ (pa : Addr) (pn : List Int), Ti G pa (pn.map V.int) → pn.Perm (upto n) → Q1 (.ref pa) G) → rIxT K (.ref ra) (.int (i : Int)) G Q1 := fun i G Q1 hi e q => by
    obtain ⟨pa, pn, h1, _, h2, h4⟩ := hxs i hi
    exact ⟨ra, xs, i, _, rfl, rfl, SqT.of (e _ _ hra), atI_nat h1, q pa pn (h2.ex e) h4⟩
  -- order, counts, queues, preference
  refine ⟨z0, fun a1 h1 => ⟨z0, fun a2 h2 => ⟨_, rfl, tc (rule_ix 0 _ _ (by omega) ((Evl.Ex.new h1).trans (Evl.Ex.new h2)) fun p0 n0 hp0 hn0 => ?_)⟩⟩⟩
  have n12 : a1 ≠ a2 := ne_of_none upd_same h2
  have b2 : H a2 = none := Evl.fresh_back (Evl.Ex.new h1) h2
  have f1 : upd (upd H a1 (.lst [])) a2 (.lst []) a1 = some (.lst []) := by rw [upd_ne n12]; exact upd_same
  have f2 : upd (upd H a1 (.lst [])) a2 (.lst []) a2 = some (.lst []) := upd_same
  have e2 : Ex H (upd (upd H a1 (.lst [])) a2 (.lst [])) := (Evl.Ex.new h1).trans (Evl.Ex.new h2)
  generalize upd (upd H a1 (.lst [])) a2 (.lst []) = H2 at f1 f2 e2 hp0 ⊢
  have l0 : n0.length = n := by rw [hn0.length_eq, upto_len]
  refine ⟨p0, rfl, ⟨_, hp0.sq⟩, fun D hD => ?_⟩
  have nD1 : a1 ≠ D := ne_of_none f1 hD
  have nD2 : a2 ≠ D := ne_of_none f2 hD
  refine lc_tup (K := K) (a := p0) (xs := n0.map V.int) (fun i H' => ∃ as : List Addr, as.length = i ∧ as.Nodup ∧ D ∉ as ∧ (∀ b ∈ as, H2 b = none) ∧ H' D = some (.lst (as.map V.ref)) ∧ (∀ b ∈ as, H' b = some (.lst [])) ∧ Ex H2 H' ∧ i ≤ 1000)
    ⟨[], rfl, List.nodup_nil, fun z => (nomatch z), fun _ z => (nomatch z), upd_same, fun _ z => (nomatch z), Evl.Ex.new hD, by omega⟩ (fun i H' _ ⟨_, _, _, _, _, _, _, e, _⟩ => (hp0.ex e).sq) ?_ ?_
  · rintro i x H' hi ⟨as, hl, nd, hDa, hfr, hd, hemp, e, hi2⟩
    have lt := (List.getElem?_eq_some_iff.mp hi).1
    rw [List.length_map] at lt
    refine ⟨rfl, yesT ⟨z0, fun p hp => ⟨_, by rw [upd_ne (ne_of_none hd hp)]; exact hd, by rw [List.length_map]; exact sz (by omega), as ++ [p], by simp [hl], ?_, ?_, ?_, ?_, ?_, ?_, by omega⟩⟩⟩
    · refine List.nodup_append.mpr ⟨nd, by simp, fun x hx y hy => ?_⟩
      rcases List.mem_singleton.mp hy with rfl
      exact ne_of_none (hemp x hx) hp
    · intro z
      rcases List.mem_append.mp z with q | q
      · exact hDa q
      · rcases List.mem_singleton.mp q with rfl
        rw [hd] at hp; cases hp
    · intro b hb
      rcases List.mem_append.mp hb with q | q
      · exact hfr b q
      · rcases List.mem_singleton.mp q with rfl
        exact Evl.fresh_back e hp
    · rw [upd_same, List.map_append]; rfl
    · intro b hb
      have nbD : b ≠ D := fun z => by
        rcases List.mem_append.mp hb with q | q
        · exact hDa (z ▸ q)
        · rcases List.mem_singleton.mp q with rfl
          rw [z, hd] at hp; cases hp
      rw [upd_ne nbD]
      rcases List.mem_append.mp hb with q | q
      · rw [upd_ne (ne_of_none (hemp b q) hp)]
        exact hemp b q
      · rcases List.mem_singleton.mp q with rfl
        exact upd_same
    · exact Evl.Ex.mut (e.trans (Evl.Ex.new hp)) hD
  rintro H3 ⟨as, hl, nd, hDa, hfr, hd, hemp, e3, _⟩
  rw [List.length_map, l0] at hl
  have Q3 : Qs H3 D as (List.replicate n []) := ⟨hd, by rw [List.length_replicate]; exact hl, fun j b q hb hq => by
    have := List.mem_of_getElem? hq
    rw [List.eq_of_mem_replicate this]
    exact hemp b (List.mem_of_getElem? hb), nd, hDa⟩
  have n1as : a1 ∉ as := fun z => by have := hfr _ z; rw [f1] at this; cases this
  have n2as : a2 ∉ as := fun z => by have := hfr _ z; rw [f2] at this; cases this
  have frH : ∀ b ∈ as, H b = none := fun b hb => Evl.fresh_back e2 (hfr b hb)
  have fD : H D = none := Evl.fresh_back e2 hD
  have E3 := e2.trans e3
  have g1 := e3 _ _ f1
  have g2 := e3 _ _ f2
  clear hd hemp hfr e3 f1 f2 hD hp0 hn0 l0
  refine ⟨_, rfl, tc (rule_ix 0 _ _ (by omega) E3 fun p1 n1 hp1 hn1 => ⟨(by show 4 ≤ sizeLine; decide), fun tp htp => ⟨tp, _, rfl, SqT.of upd_same, rfl, _, _, rfl, _, _, rfl, _, _, rfl, _, _, rfl, rfl, ?_⟩⟩)⟩
  have X4 := Evl.Ex.new htp (o := .tup [.ref a1, .ref a2, .ref D, .ref p1])
  have Q4 := Q3.ex X4
  have E4 := E3.trans X4
  have g1 := X4 _ _ g1
  have g2 := X4 _ _ g2
  have hp1 := hp1.ex X4
  generalize upd H3 tp (.tup [.ref a1, .ref a2, .ref D, .ref p1]) = H4 at Q4 E4 g1 g2 hp1 ⊢
  clear Q3 E3 X4 htp
  -- for letter in word
  refine ⟨_, rfl, enc bs, rfl, ?_⟩
  have esz : (enc bs).cps.size = bs.length := enc_len bs
  have hcl := counts_len bs
  have hbl : bs.length ≤ 2000 := by have := hh.1; have := hh.2.1; omega
  refine for_it walk_str (fun i σ H' => ∃ (os cs : List Int) (qs : List (List Int)) (pa : Addr) (pn : List Int) (w7 w8 w9 : Option V), σ = [some (.ref ra), some (.ref r), some (.str (enc bs)), some (.ref a1), some (.ref a2), some (.ref D), some (.ref pa), w7, w8, w9] ∧
      H' a1 = some (.lst (os.map V.int)) ∧ H' a2 = some (.lst (cs.map V.int)) ∧ Qs H' D as qs ∧ qs.length = n ∧ Ti H' pa (pn.map V.int) ∧ pn.Perm (upto n) ∧ (os ++ qs.flatten).Perm (upto cs.length) ∧ cs.length = (bs.take i).count true ∧ os.length = (bs.take i).count false ∧ Ex H H')
    ⟨[], [], List.replicate n [], p1, n1, _, _, _, rfl, g1, g2, Q4, List.length_replicate, hp1, hn1, by simp [upto], by simp, by simp, E4⟩ (fun _ _ _ _ _ => trivial) ?turn ?after
  case after =>
    rintro σ H5 ⟨os, cs, qs, pa, pn, w7, w8, w9, rfl, f1, f2, Q5, lq, hpa, hpn, hp, lc, lo, e5⟩
    rw [esz, List.take_of_length_le (Nat.le_refl _)] at lc lo
    have lc : cs.length = rs.length := lc.trans hh.1
    have lo : os.length = rs.length := lo.trans hh.2.1
    have hfl : qs.flatten = [] := by
      have := hp.length_eq
      rw [List.length_append, upto_len] at this
      exact List.eq_nil_of_length_eq_zero (by omega)
    rw [hfl, List.append_nil, lc] at hp
    refine ⟨_, rfl, a1, _, rfl, SqL.of f1, fun q1 G6 hq1 x6 h6 => ⟨_, rfl, a2, _, rfl, .inl ⟨SqL.of (x6 _ _ f2), fun q2 hq2 => ⟨(by show 2 ≤ sizeLine; decide), fun p hp2 => ?_⟩⟩⟩⟩
    exact k p q1 (.ref q2) os _ (((e5.trans x6).trans (Evl.Ex.new hq2)).trans (Evl.Ex.new hp2)) upd_same (h6.ex ((Evl.Ex.new hq2).trans (Evl.Ex.new hp2))) hp
  case turn =>
    rintro i x σ G5 H5 hi ⟨os, cs, qs, pa, pn, w7, w8, w9, rfl, f1, f2, Q5, lq, hpa, hpn, hp, lc, lo, e5⟩ ⟨rfl, c, hc, rfl⟩
    obtain ⟨b, hb, rfl⟩ := enc_at hc
    rw [esz] at hi
    have step : bs.take (i + 1) = bs.take i ++ [b] := by
      rw [List.take_succ, hb]
      rfl
    have ltot : ((bs.take i).count true) + ((bs.take i).count false) ≤ 2000 := by
      have := counts_len (bs.take i)
      rw [List.length_take] at this
      omega
    refine ⟨_, rfl, rfl, _, rfl, ?_⟩
    rw [code_a]
    cases b with
    | true =>
      refine iteT ?_
      have hk : cs.length < rs.length := by
        have : (bs.take (i + 1)).count true ≤ bs.count true := (List.take_sublist _ _).count_le _
        rw [step] at this
        simp at this
        have := hh.1
        omega
      have hL : (rs.map V.int)[cs.length]? = some (.int rs[cs.length]) := by rw [List.getElem?_map, List.getElem?_eq_getElem hk]; rfl
      have hl2 := hin _ (List.getElem_mem hk)
      generalize rs[cs.length] = L at hL hl2
      obtain ⟨m, rfl⟩ : ∃ m : Nat, L = (m : Int) := ⟨L.toNat, by omega⟩
      have hm : m < n := by omega
      have hma : m < as.length := by omega
      have hmq : m < qs.length := by omega
      have hbm := List.getElem?_eq_getElem hma
      have hqm := List.getElem?_eq_getElem hmq
      have hqH := Q5.at_ m _ _ hbm hqm
      have lqm : (qs[m]).length ≤ 2000 := by
        have h1 := hp.length_eq
        rw [List.length_append, upto_len] at h1
        have h2 : (qs[m]).length ≤ qs.flatten.length := (List.sublist_flatten_of_mem (List.getElem_mem hmq)).length_le
        omega
      generalize as[m] = bm at hbm hqH
      generalize qs[m] = qm at hqm hqH lqm
      have lcV : ((cs.map V.int).length : Int) = ((cs.length : Nat) : Int) := by rw [List.length_map]
      have hbas : bm ∈ as := List.mem_of_getElem? hbm
      have nb1 : bm ≠ a1 := fun z => n1as (z ▸ hbas)
      have nb2 : bm ≠ a2 := fun z => n2as (z ▸ hbas)
      have hLa : atI (rs.map V.int) ((cs.map V.int).length : Int) = some (.int (m : Int)) := by rw [lcV]; exact atI_nat hL
      have hba : atI (as.map V.ref) (m : Int) = some (.ref bm) := atI_nat (by rw [List.getElem?_map, hbm]; rfl)
      -- queues[row[len(counts)]].append(len(counts))
      refine ⟨_, rfl, _, rfl, _, rfl, a2, _, rfl, .inl (SqL.of f2), r, _, _, _, rfl, rfl, (hrow.ex e5).sq, hLa, D, _, (m : Int), .ref bm, rfl, rfl, SqL.of Q5.d, hba, .inl ⟨rfl, _, SqL.of hqH⟩, _, rfl, a2, _, rfl, .inl (SqL.of f2), bm, _, _, rfl, rfl, hqH, by rw [List.length_map]; exact sz (by omega), ?_⟩
      have eq1 : qm.map V.int ++ [V.int ((cs.map V.int).length : Int)] = (qm ++ [(cs.length : Int)]).map V.int := by rw [lcV, List.map_append]; rfl
      rw [eq1]
      have Q6 := Q5.set (x := qm ++ [(cs.length : Int)]) hbm
      have e6 : Ex H (upd H5 bm (.lst ((qm ++ [(cs.length : Int)]).map V.int))) := Evl.Ex.mut e5 (frH _ hbas)
      have f1' : upd H5 bm (.lst ((qm ++ [(cs.length : Int)]).map V.int)) a1 = some (.lst (os.map V.int)) := by rw [upd_ne (Ne.symm nb1)]; exact f1
      have f2' : upd H5 bm (.lst ((qm ++ [(cs.length : Int)]).map V.int)) a2 = some (.lst (cs.map V.int)) := by rw [upd_ne (Ne.symm nb2)]; exact f2
      have hpa' : Ti (upd H5 bm (.lst ((qm ++ [(cs.length : Int)]).map V.int))) pa (pn.map V.int) := hpa.lst hqH
      generalize upd H5 bm (.lst ((qm ++ [(cs.length : Int)]).map V.int)) = H6 at Q6 e6 f1' f2' hpa' ⊢
      -- counts.append(len(order))
      refine ⟨_, rfl, .inl ⟨rfl, _, SqL.of f2'⟩, _, rfl, a1, _, rfl, .inl (SqL.of f1'), a2, _, _, rfl, rfl, f2', by rw [List.length_map]; exact sz (by omega), ?_⟩
      refine ⟨os, cs ++ [(os.length : Int)], qs.set m (qm ++ [(cs.length : Int)]), pa, pn, _, _, _, rfl, by rw [upd_ne n12]; exact f1', ?_, Q6.ne nD2 n2as, by rw [List.length_set]; exact lq, hpa'.lst f2', hpn, ?_, by rw [step]; simp; omega, by rw [step]; simp; omega, Evl.Ex.mut e6 b2⟩
      · rw [upd_same, List.length_map, List.map_append]; rfl
      · rw [List.length_append]
        refine (List.Perm.append_left os (flat_put hqm)).trans ?_
        refine (List.perm_middle).trans ?_
        exact ((hp.cons _).trans (upto_succ cs.length).symm)
    | false =>
      refine iteF ?_
      have hw : 0 < qs.flatten.length := by
        have := hh.2.2 i hb
        have h1 := hp.length_eq
        rw [List.length_append, upto_len] at h1
        omega
      -- lane = [one for one in preference if queues[one] != []][0]
      have full : ∀ z : Int, z ∈ pn → 0 ≤ z ∧ z < n := fun z hz => mem_upto.mp (hpn.mem_iff.mp hz)
      refine ⟨_, rfl, pa, rfl, ⟨_, hpa.sq⟩, fun D2 hD2 => mf_tup (fun v => match v with | .int z => decide ((qs.getD z.toNat []) ≠ []) | _ => false) id hD2 hpa.sq (by rw [List.length_map, hpn.length_eq, upto_len]; omega) (fun _ => rfl) (fun x G hx e Q1 q1 => ?_) (fun x G hx e _ Q1 q1 => ⟨_, rfl, q1 G (Evl.Ex.refl _)⟩) (fun H6 e6 h6 => ?_)⟩
      · obtain ⟨z, hz, rfl⟩ := List.mem_map.mp hx
        have hz2 := full z hz
        obtain ⟨m, rfl⟩ : ∃ m : Nat, z = (m : Int) := ⟨z.toNat, by omega⟩
        have hma : m < as.length := by have := Q5.len; omega
        have hmq : m < qs.length := by omega
        have hbm := List.getElem?_eq_getElem hma
        have hqm := List.getElem?_eq_getElem hmq
        have hqH := e _ _ (Q5.at_ m _ _ hbm hqm)
        have hba : atI (as.map V.ref) (m : Int) = some (.ref as[m]) := atI_nat (by rw [List.getElem?_map, hbm]; rfl)
        refine ⟨_, rfl, _, rfl, D, _, (m : Int), .ref as[m], rfl, rfl, SqL.of (e _ _ Q5.d), hba, z0, fun y hy => ⟨as[m], y, _, rfl, rfl, SqL.of (by rw [upd_ne (ne_of_none hqH hy)]; exact hqH), SqL.of upd_same, _, rfl, ?_⟩⟩
        have := q1 (upd G y (.lst [])) (Evl.Ex.new hy)
        have eqq : decide ((List.map V.int qs[m]) ≠ []) = decide ((qs.getD ((m : Int).toNat) []) ≠ []) := by
          rw [Int.toNat_natCast, List.getD_eq_getElem?_getD, hqm]
          simp
        rw [eqq]
        exact this
      · rw [List.map_id] at h6
        -- some queue is not empty
        obtain ⟨L, hLp, hLq⟩ : ∃ L : Int, L ∈ pn ∧ qs.getD L.toNat [] ≠ [] := by
          obtain ⟨q, hq, hne⟩ : ∃ q ∈ qs, q ≠ [] := by
            apply Classical.byContradiction
            intro hno
            have : qs.flatten = [] := List.flatten_eq_nil_iff.mpr fun q hq => Classical.byContradiction fun z => hno ⟨q, hq, z⟩
            rw [this] at hw
            simp at hw
          obtain ⟨m, hm⟩ := List.mem_iff_getElem?.mp hq
          have hml := (List.getElem?_eq_some_iff.mp hm).1
          refine ⟨(m : Int), hpn.mem_iff.mpr (mem_upto.mpr (by omega)), ?_⟩
          rw [Int.toNat_natCast, List.getD_eq_getElem?_getD, hm]
          exact hne
        have hmem : (V.int L) ∈ (pn.map V.int).filter (fun v => match v with | .int z => decide ((qs.getD z.toNat []) ≠ []) | _ => false) := List.mem_filter.mpr ⟨List.mem_map.mpr ⟨L, hLp, rfl⟩, decide_eq_true hLq⟩
        cases hfl : (pn.map V.int).filter (fun v => match v with | .int z => decide ((qs.getD z.toNat []) ≠ []) | _ => false) with
        | nil => rw [hfl] at hmem; cases hmem
        | cons v0 rest =>
          have hv0 : v0 ∈ (pn.map V.int).filter (fun v => match v with | .int z => decide ((qs.getD z.toNat []) ≠ []) | _ => false) := by rw [hfl]; exact List.mem_cons_self
          rw [hfl] at h6
          obtain ⟨hv1, hv2⟩ := List.mem_filter.mp hv0
          obtain ⟨z, hz, rfl⟩ := List.mem_map.mp hv1
          have hz2 := full z hz
          have hv2 : qs.getD z.toNat [] ≠ [] := of_decide_eq_true hv2
          obtain ⟨m, rfl⟩ : ∃ m : Nat, z = (m : Int) := ⟨z.toNat, by omega⟩
          rw [Int.toNat_natCast] at hv2
          have hma : m < as.length := by have := Q5.len; omega
          have hmq : m < qs.length := by omega
          have hbm := List.getElem?_eq_getElem hma
          have hqm := List.getElem?_eq_getElem hmq
          rw [List.getD_eq_getElem?_getD, hqm] at hv2
          generalize as[m] = bm at hbm
          generalize qs[m] = qm at hqm hv2
          cases qm with
          | nil => exact absurd rfl hv2
          | cons x0 q' =>
            have Q6 := Q5.ex e6
            have hqH := Q6.at_ m _ _ hbm hqm
            have hbas : bm ∈ as := List.mem_of_getElem? hbm
            have nb1 : bm ≠ a1 := fun z => n1as (z ▸ hbas)
            have nb2 : bm ≠ a2 := fun z => n2as (z ▸ hbas)
            have hat0 : atI (V.int (m : Int) :: rest) 0 = some (.int (m : Int)) := atI_nat (j := 0) rfl
            have hba : atI (as.map V.ref) (m : Int) = some (.ref bm) := atI_nat (by rw [List.getElem?_map, hbm]; rfl)
            refine ⟨D2, _, _, _, rfl, rfl, SqL.of h6, hat0, ?_⟩
            -- order.append(queues[lane].pop(0))
            refine ⟨_, rfl, .inl ⟨rfl, _, SqL.of (e6 _ _ f1)⟩, _, rfl, _, rfl, D, _, (m : Int), .ref bm, rfl, rfl, SqL.of Q6.d, hba, .inl ⟨rfl, _, SqL.of hqH⟩, bm, _, 0, 0, .int x0, rfl, rfl, hqH, by decide, by decide, by simp [seqIndex?], rfl, ?_⟩
            have eE : (HO.lst ((List.map V.int (x0 :: q')).eraseIdx 0)) = .lst (q'.map V.int) := rfl
            rw [eE]
            have Q7 := Q6.set (x := q') hbm
            have e7 : Ex H (upd H6 bm (.lst (q'.map V.int))) := Evl.Ex.mut (e5.trans e6) (frH _ hbas)
            have f1' : upd H6 bm (.lst (q'.map V.int)) a1 = some (.lst (os.map V.int)) := by rw [upd_ne (Ne.symm nb1)]; exact e6 _ _ f1
            have f2' : upd H6 bm (.lst (q'.map V.int)) a2 = some (.lst (cs.map V.int)) := by rw [upd_ne (Ne.symm nb2)]; exact e6 _ _ f2
            generalize upd H6 bm (.lst (q'.map V.int)) = H7 at Q7 e7 f1' f2' ⊢
            refine ⟨a1, _, _, rfl, rfl, f1', by rw [List.length_map]; exact sz (by omega), ?_⟩
            have e8 : Ex H (upd H7 a1 (.lst (os.map V.int ++ [V.int x0]))) := Evl.Ex.mut e7 h1
            have Q8 : Qs (upd H7 a1 (.lst (os.map V.int ++ [V.int x0]))) D as (qs.set m q') := Q7.ne nD1 n1as
            have f1'' : upd H7 a1 (.lst (os.map V.int ++ [V.int x0])) a1 = some (.lst ((os ++ [x0]).map V.int)) := by rw [upd_same, List.map_append]; rfl
            have f2'' : upd H7 a1 (.lst (os.map V.int ++ [V.int x0])) a2 = some (.lst (cs.map V.int)) := by rw [upd_ne (Ne.symm n12)]; exact f2'
            generalize upd H7 a1 (.lst (os.map V.int ++ [V.int x0])) = H8 at e8 Q8 f1'' f2'' ⊢
            -- preference = rule[1 + lane]
            have em : (1 : Int) + (m : Int) = ((1 + m : Nat) : Int) := by omega
            refine ⟨_, rfl, _, rfl, _, _, rfl, rfl, ?_⟩
            show rIxT K (.ref ra) (.int (1 + (m : Int))) H8 _
            rw [em]
            refine rule_ix (1 + m) _ _ (by omega) e8 fun pa2 pn2 hpa2 hpn2 => ?_
            refine ⟨os ++ [x0], cs, qs.set m q', pa2, pn2, _, _, _, rfl, f1'', f2'', Q8, by rw [List.length_set]; exact lq, hpa2, hpn2, ?_, by rw [step]; simp; omega, by rw [step]; simp; omega, e8⟩
            rw [List.append_assoc]
            exact (List.Perm.append_left os (flat_pop hqm).symm).trans hp
end
end Lr

namespace Lr
open PySem L2
/-- which preference counts after these have passed -/
def kx (rs : List Int) (passed : List Int) : Nat := match passed.getLast? with
  | none => 0
  | some c => 1 + (lane rs c).toNat
def lastV (rs : List Int) (passed : List Int) : V := match passed.getLast? with
  | none => .non
  | some c => .int (lane rs c)
def LastOk (n : Nat) (v : V) (k : Nat) : Prop := (v = .non ∧ k = 0) ∨ ∃ q : Nat, v = .int (q : Int) ∧ q < n ∧ k = 1 + q
theorem lane_in {n : Nat} {rs : List Int} {o : Int} (h : InLanes n rs) (h0 : 0 ≤ o) (h1 : o < rs.length) : 0 ≤ lane rs o ∧ lane rs o < n := by
  have lt : o.toNat < rs.length := by omega
  unfold lane
  rw [List.getD_eq_getElem?_getD, List.getElem?_eq_getElem lt]
  exact h _ (List.getElem_mem lt)
theorem last_ok {n : Nat} {rs cs : List Int} (h : InLanes n rs) (hc : ∀ c ∈ cs, 0 ≤ c ∧ c < rs.length) : LastOk n (lastV rs cs) (kx rs cs) := by
  unfold lastV kx
  cases q : cs.getLast? with
  | none => exact .inl ⟨rfl, rfl⟩
  | some c =>
    have hm := hc c (List.mem_of_getLast? q)
    have := lane_in h hm.1 hm.2
    refine .inr ⟨(lane rs c).toNat, ?_, by omega, rfl⟩
    show V.int _ = V.int _
    congr 1
    omega
theorem LastOk.lt {n k : Nat} {v : V} (h : LastOk n v k) : k < n + 1 := by
  rcases h with ⟨_, rfl⟩ | ⟨q, _, h, rfl⟩ <;> omega
def pnAt (ps : List (List Int)) (rs passed : List Int) : List Int := ps.getD (kx rs passed) []
/-- the rivals at a place of an order -/
def rivK (ps : List (List Int)) (rs os : List Int) (k : Nat) : List Int := rivs rs (pnAt ps rs (os.take k)) (os.drop k) (os.getD k 0)
theorem pn_at {n : Nat} {ps : List (List Int)} {rs passed : List Int} (hR : RuleOk n ps) (hk : kx rs passed < n + 1) : ps[kx rs passed]? = some (pnAt ps rs passed) ∧ (pnAt ps rs passed).Perm (upto n) := by
  have lt : kx rs passed < ps.length := by rw [hR.2.1]; exact hk
  have e : ps[kx rs passed]? = some (pnAt ps rs passed) := by
    unfold pnAt
    rw [List.getD_eq_getElem?_getD, List.getElem?_eq_getElem lt]
    rfl
  exact ⟨e, hR.2.2 _ (List.mem_of_getElem? e)⟩
abbrev sIsLane : Stmt := topS 9
abbrev nIsLane : List Str := ["rule", "value"]
theorem scIsLane : FnScope nIsLane ["rule", "value"] (defScope sIsLane) :=
  ⟨rfl, rfl, rfl, by decide +kernel, rfl, by decide +kernel, by decide +kernel⟩
abbrev sCheckL : Stmt := topS 10
abbrev nCheckL : List Str := ["rule", "value"]
theorem scCheckL : FnScope nCheckL ["rule", "value"] (defScope sCheckL) :=
  ⟨rfl, rfl, rfl, by decide +kernel, rfl, by decide +kernel, by decide +kernel⟩
abbrev sPrefA : Stmt := topS 11
abbrev nPrefA : List Str := ["rule", "last"]
theorem scPrefA : FnScope nPrefA ["rule", "last"] (defScope sPrefA) :=
  ⟨rfl, rfl, rfl, by decide +kernel, rfl, by decide +kernel, by decide +kernel⟩
abbrev sFore : Stmt := topS 12
abbrev nFore : List Str := ["preference", "lanes", "lane"]
theorem scFore : FnScope nFore ["preference", "lanes"] (defScope sFore) :=
  ⟨rfl, rfl, rfl, by decide +kernel, rfl, by decide +kernel, by decide +kernel⟩
abbrev sGoes : Stmt := topS 13
abbrev nGoes : List Str := ["rule", "last", "one", "other"]
theorem scGoes : FnScope nGoes ["rule", "last", "one", "other"] (defScope sGoes) :=
  ⟨rfl, rfl, rfl, by decide +kernel, rfl, by decide +kernel, by decide +kernel⟩
abbrev sFirstC : Stmt := topS 17
abbrev nFirstC : List Str := ["row", "cars", "lanes", "found", "car"]
theorem scFirstC : FnScope nFirstC ["row", "cars"] (defScope sFirstC) :=
  ⟨rfl, rfl, rfl, by decide +kernel, rfl, by decide +kernel, by decide +kernel⟩
abbrev sLastL : Stmt := topS 18
abbrev nLastL : List Str := ["row", "passed"]
theorem scLastL : FnScope nLastL ["row", "passed"] (defScope sLastL) :=
  ⟨rfl, rfl, rfl, by decide +kernel, rfl, by decide +kernel, by decide +kernel⟩
abbrev sRivOf : Stmt := topS 19
abbrev nRivOf : List Str := ["rule", "row", "passed", "firsts", "car", "last", "other"]
theorem scRivOf : FnScope nRivOf ["rule", "row", "passed", "firsts", "car"] (defScope sRivOf) :=
  ⟨rfl, rfl, rfl, by decide +kernel, rfl, by decide +kernel, by decide +kernel⟩
abbrev sRivAt : Stmt := topS 20
abbrev nRivAt : List Str := ["rule", "row", "order", "place", "firsts"]
theorem scRivAt : FnScope nRivAt ["rule", "row", "order", "place"] (defScope sRivAt) :=
  ⟨rfl, rfl, rfl, by decide +kernel, rfl, by decide +kernel, by decide +kernel⟩
abbrev sRiv : Stmt := topS 21
abbrev nRiv : List Str := ["rule", "row", "order", "place"]
theorem scRiv : FnScope nRiv ["rule", "row", "order"] (defScope sRiv) :=
  ⟨rfl, rfl, rfl, by decide +kernel, rfl, by decide +kernel, by decide +kernel⟩
section
variable {P : Program} {w : World} {K : PySem.W.Frag} {mg : Str → Option Value} {base : Heap}
def spIsLane : Sp := fun vs H Q _ => ∃ (ra : Addr) (xs : List V) (v : V) (d : PyData) (n : Nat), vs = [.ref ra, v] ∧ H ra = some (.tup xs) ∧ xs.length = n + 1 ∧ Dv H v d ∧ ∀ H', Ex H H' → Q (.bl (withinD d 0 ((n : Int) - 1))) H'
theorem ok_is_lane {f : Addr} {fd : FuncData} (F : Fun K "is_lane" "is_lane" sIsLane f fd) (T : Blt mg) (cis_within : Cal P w K mg base 2 "is_within" ["value", "low", "high"] spWithin) : FnOk P w K mg base CX0 3 f fd ["rule", "value"] spIsLane := by
  refine F.ok scIsLane (fun vs H Q E h => ?_) (fun cdv A outer s H vs Q E hr h => ?_)
  · obtain ⟨ra, xs, v, d, n, rfl, _⟩ := h
    rfl
  obtain ⟨ra, xs, v, d, n, rfl, hx, hl, hd, k⟩ := h
  refine ⟨_, (pss_one (ps_ret (pe_cal cis_within (hr.mono (by decide)) rfl (pa_cons (pv 1) (pa_cons pe_int (pa_cons (pe_op op_sub (pe_callB (k_len (K := K) rfl) rfl T.len bt_len (pa_cons (pv 0) pa_nil)) pe_int) pa_nil)))))), ?_⟩
  have e : (xs.length : Int) - 2 = (n : Int) - 1 := by omega
  refine ⟨_, rfl, _, rfl, ra, xs, rfl, .inr (SqT.of hx), _, _, rfl, rfl, v, d, 0, (xs.length : Int) - 2, rfl, hd, fun H' e' => ?_⟩
  rw [e]
  exact k H' e'
def spPrefA : Sp := fun vs H Q _ => ∃ (rv lv : V) (n : Nat) (ps : List (List Int)) (k : Nat) (pn : List Int), vs = [rv, lv] ∧ RuleAt n ps H rv ∧ LastOk n lv k ∧ ps[k]? = some pn ∧ ∀ (pa : Addr) H', Ex H H' → Ti H' pa (pn.map V.int) → Q (.ref pa) H'
def spCheckL : Sp := fun vs H Q _ => ∃ (ra : Addr) (xs : List V) (q n : Nat), vs = [.ref ra, .int (q : Int)] ∧ H ra = some (.tup xs) ∧ xs.length = n + 1 ∧ q < n ∧ ∀ H', Ex H H' → Q .non H'
theorem ok_checkL {f : Addr} {fd : FuncData} (F : Fun K "check_lane" "check_lane" sCheckL f fd) (T : Blt mg) (cis_lane : Cal P w K mg base 3 "is_lane" ["rule", "value"] spIsLane) : FnOk P w K mg base CX0 4 f fd ["rule", "value"] spCheckL := by
  refine F.ok scCheckL (fun vs H Q E h => ?_) (fun cdv A outer s H vs Q E hr h => ?_)
  · obtain ⟨ra, xs, q, n, rfl, _⟩ := h
    rfl
  obtain ⟨ra, xs, q, n, rfl, hra, lxs, hq, kk⟩ := h
  refine ⟨_, (pss_one (ps_if (pt_not (pt_val (pe_cal cis_lane (hr.mono (by decide)) rfl (pa_cons (pv 0) (pa_cons (pv 1) pa_nil))))) (pss_one ps_never) pss_nil)), ?_⟩
  refine ⟨_, rfl, _, rfl, ra, xs, .int (q : Int), .int (q : Int), n, rfl, hra, lxs, .int _, fun H' e' => ⟨_, rfl, ?_⟩⟩
  have ew : withinD (.int (q : Int)) 0 ((n : Int) - 1) = true := by
    simp only [withinD, Bool.and_eq_true, decide_eq_true_eq]
    omega
  rw [ew]
  exact iteF (kk H' e')
theorem ok_prefA {f : Addr} {fd : FuncData} (F : Fun K "preference_after" "preference_after" sPrefA f fd) (T : Blt mg) (ccheck_lane : Cal P w K mg base 4 "check_lane" ["rule", "value"] spCheckL) : FnOk P w K mg base CX0 5 f fd ["rule", "last"] spPrefA := by
  refine F.ok scPrefA (fun vs H Q E h => ?_) (fun cdv A outer s H vs Q E hr h => ?_)
  · obtain ⟨rv, lv, n, ps, k, pn, rfl, _⟩ := h
    rfl
  obtain ⟨rv, lv, n, ps, k, pn, rfl, hR, hl, hpn, kk⟩ := h
  obtain ⟨ra, xs, rfl, hra, lxs, hxs⟩ := hR.get
  refine ⟨_, (pss_cons (ps_if (pt_cmpR op_isN (pv 1) pe_non (nomark _)) (pss_one (ps_ret (pe_ix (kx_tup (K := K) rfl) (pv 0) pe_int (fun _ _ => rfl)))) pss_nil)
    (pss_cons (ps_expr (pe_cal ccheck_lane (hr.mono (by decide)) rfl (pa_cons (pv 0) (pa_cons (pv 1) pa_nil))))
    (pss_one (ps_ret (pe_ix (kx_tup (K := K) rfl) (pv 0) (pe_op op_add pe_int (pv 1)) (fun _ _ => rfl)))))), ?_⟩
  obtain ⟨pa, pn', h1, h2, h3, _⟩ := hxs k hl.lt
  rw [hpn] at h2
  cases h2
  rcases hl with ⟨rfl, rfl⟩ | ⟨q, rfl, hq, rfl⟩
  · refine ⟨_, rfl, rfl, _, rfl, ?_⟩
    refine iteT ⟨_, rfl, ra, _, _, _, rfl, rfl, SqT.of hra, atI_nat (j := 0) h1, kk pa H (Evl.Ex.refl _) h3⟩
  · refine ⟨_, rfl, rfl, _, rfl, ?_⟩
    refine iteF ⟨_, rfl, _, rfl, ra, xs, q, n, rfl, hra, lxs, hq, fun H' e' => ⟨_, rfl, _, rfl, _, _, rfl, rfl, ?_⟩⟩
    have e1 : (1 : Int) + (q : Int) = ((1 + q : Nat) : Int) := by omega
    show rIxT K (.ref ra) (.int (1 + (q : Int))) H' _
    rw [e1]
    exact ⟨ra, _, _, _, rfl, rfl, SqT.of (e' _ _ hra), atI_nat h1, kk pa H' e' (h3.ex e')⟩
def spFore : Sp := fun vs H Q _ => ∃ (p q : Addr) (pn xs : List Int) (z : Int) (rest : List Int), vs = [.ref p, .ref q] ∧ Tu H p (pn.map V.int) ∧ Tu H q (xs.map V.int) ∧ pn.length ≤ 1000 ∧ pn.filter (fun c => decide (c ∈ xs)) = z :: rest ∧ ∀ H', Ex H H' → Q (.int z) H'
theorem ok_fore {f : Addr} {fd : FuncData} (F : Fun K "foremost" "foremost" sFore f fd) (T : Blt mg) : FnOk P w K mg base CX0 1 f fd ["preference", "lanes"] spFore := by
  refine F.ok scFore (fun vs H Q E h => ?_) (fun cdv A outer s H vs Q E hr h => ?_)
  · obtain ⟨p, q, pn, xs, z, rest, rfl, _⟩ := h
    rfl
  obtain ⟨p, q, pn, xs, z, rest, rfl, hp, hq, hl, hf, k⟩ := h
  refine ⟨_, (pss_one (ps_ret (pe_ix (kx_list (K := K) rfl) (pe_lc (own := [("lane", 2)]) (g := gName 2)  (by rfl) scFore.nd (ki_tup (K := K) rfl (pv 0)) (blkOk_by (own := [("lane", 2)]) (N := nFore) (sc := defScope sFore) (by decide +kernel)) (fun _ _ _ _ _ => (pg_name (i := 2) scFore.nd rfl (Or.inl rfl))) (fun _ _ _ _ _ => pts_one (pt_cmpR (ko_in (K := K) rfl) (pv 2) (pv 1) (by rfl))) (fun _ _ _ _ _ => (pv 2))) pe_int (fun _ _ => rfl)))), ?_⟩
  refine ⟨_, rfl, p, rfl, ⟨_, hp.sq⟩, fun D hD => mf_tup (fun v => inV v (xs.map V.int)) id hD hp.sq (by rw [List.length_map]; omega) (fun _ => rfl) (fun x G hx e Q1 q1 => ?_) (fun x G hx e _ Q1 q1 => ⟨_, rfl, q1 G (Evl.Ex.refl _)⟩) (fun H1 e1 h1 => ?_)⟩
  · obtain ⟨c, _, rfl⟩ := List.mem_map.mp hx
    exact ⟨_, rfl, _, rfl, q, _, rfl, .inr (hq.ex e).sq, rfl, flat_ints xs, _, rfl, q1 G (Evl.Ex.refl _)⟩
  · have ef : (pn.map V.int).filter (fun v => inV v (xs.map V.int)) = (z :: rest).map V.int := by
      rw [List.filter_map, ← hf]
      congr 1
      apply List.filter_congr
      intro c _
      exact inV_ints c xs
    rw [ef, List.map_id] at h1
    exact ⟨D, _, _, _, rfl, rfl, SqL.of h1, atI_nat (j := 0) rfl, k H1 e1⟩
def spGoes : Sp := fun vs H Q _ => ∃ (rv lv : V) (n : Nat) (ps : List (List Int)) (k : Nat) (pn : List Int) (x y : Int), vs = [rv, lv, .int x, .int y] ∧ RuleAt n ps H rv ∧ LastOk n lv k ∧ ps[k]? = some pn ∧ x ∈ pn ∧ y ∈ pn ∧ n ≤ 100 ∧ ∀ H', Ex H H' → Q (.bl (gb pn x y)) H'
theorem ok_goes {f : Addr} {fd : FuncData} (F : Fun K "goes_before" "goes_before" sGoes f fd) (T : Blt mg) (cpreference_after : Cal P w K mg base 5 "preference_after" ["rule", "last"] spPrefA) (cforemost : Cal P w K mg base 1 "foremost" ["preference", "lanes"] spFore) : FnOk P w K mg base CX0 6 f fd ["rule", "last", "one", "other"] spGoes := by
  refine F.ok scGoes (fun vs H Q E h => ?_) (fun cdv A outer s H vs Q E hr h => ?_)
  · obtain ⟨rv, lv, n, ps, k, pn, x, y, rfl, _⟩ := h
    rfl
  obtain ⟨rv, lv, n, ps, k, pn, x, y, rfl, hR, hl, hpn, hx, hy, hn, kk⟩ := h
  refine ⟨_, (pss_one (ps_ret (pe_and (pe_cmpR op_ne (pv 2) (pv 3) (nomark _)) (pe_one (pe_cmpR op_eq (pe_cal cforemost (hr.mono (by decide)) rfl (pa_cons (pe_cal cpreference_after (hr.mono (by decide)) rfl (pa_cons (pv 0) (pa_cons (pv 1) pa_nil))) (pa_cons (pe_tup (pa_cons (pv 2) (pa_cons (pv 3) pa_nil))) pa_nil))) (pv 2) (nomark _)))))), ?_⟩
  have lpn : pn.length = n := by rw [(hR.1.2.2 pn (List.mem_of_getElem? hpn)).length_eq, upto_len]
  refine ⟨_, rfl, _, rfl, rfl, _, rfl, ?_⟩
  unfold gb at kk
  by_cases hne : x = y
  · subst hne
    have q := kk H (Evl.Ex.refl _)
    simp at q
    rw [decide_eq_true (rfl : V.int x = V.int x)]
    exact iteF q
  · rw [decide_eq_false (fun z => hne (V.int.inj z))]
    refine iteT ⟨_, rfl, _, rfl, rv, lv, n, ps, k, pn, rfl, hR, hl, hpn, fun pa H1 e1 hpa => ⟨_, rfl, _, rfl, (by show 2 ≤ sizeLine; decide), fun t ht => ?_⟩⟩
    obtain ⟨z, rest, h1, h2⟩ := fore_of hx hy hne
    refine ⟨pa, t, pn, [x, y], z, rest, rfl, (hpa.upd ht).tu, .inl upd_same, by omega, h1, fun H2 e2 => ⟨_, rfl, rfl, ?_⟩⟩
    have q := kk H2 ((e1.trans (Evl.Ex.new ht)).trans e2)
    rw [decide_eq_true hne, Bool.true_and, ← h2] at q
    have ez : decide (V.int z = V.int x) = decide (z = x) := by
      by_cases h : z = x
      · rw [h]; simp
      · rw [decide_eq_false h, decide_eq_false (fun q => h (V.int.inj q))]
    rw [ez]
    exact q
def spFirstC : Sp := fun vs H Q _ => ∃ (r o : Addr) (rs cs : List Int), vs = [.ref r, .ref o] ∧ H r = some (.tup (rs.map V.int)) ∧ Tu H o (cs.map V.int) ∧ (∀ c ∈ cs, 0 ≤ c ∧ c < rs.length) ∧ cs.length < 64 ∧ ∀ (p : Addr) H', Ex H H' → H' p = some (.lst ((fstc rs [] (srt cs)).map V.int)) → Q (.ref p) H'
theorem fstc_app {rs : List Int} : ∀ {a seen : List Int} {c : Int}, fstc rs seen (a ++ [c]) = fstc rs seen a ++ (if lane rs c ∈ seen ++ (fstc rs seen a).map (lane rs) then [] else [c])
  | [], seen, c => by
    simp [fstc]
  | x :: r, seen, c => by
    rw [List.cons_append]
    unfold fstc
    by_cases h : lane rs x ∈ seen
    · rw [if_pos h, if_pos h, fstc_app]
    · rw [if_neg h, if_neg h, fstc_app, List.cons_append]
      simp
theorem ok_firstC {f : Addr} {fd : FuncData} (F : Fun K "first_cars" "first_cars" sFirstC f fd) (T : Blt mg) : FnOk P w K mg base CX0 1 f fd ["row", "cars"] spFirstC := by
  refine F.ok scFirstC (fun vs H Q E h => ?_) (fun cdv A outer s H vs Q E hr h => ?_)
  · obtain ⟨r, o, rs, cs, rfl, _⟩ := h
    rfl
  obtain ⟨r, o, rs, cs, rfl, hrow, ho, hin, hl, k⟩ := h
  refine ⟨_, (pss_cons (ps_set (i := 2) scFirstC.nd rfl (Or.inl rfl) (pe_lst pa_nil))
    (pss_cons (ps_set (i := 3) scFirstC.nd rfl (Or.inl rfl) (pe_lst pa_nil))
    (pss_cons (ps_for PassesOwn.never rfl (ki_list (K := K) rfl (pe_callB (cr_sortT (K := K) rfl) rfl T.sorted bt_sorted (pa_cons (pv 1) pa_nil))) (pg_name (i := 4) scFirstC.nd rfl (Or.inl rfl)) (pss_one (ps_if (pt_cmpR (ko_notIn (K := K) rfl) (pe_ix (kx_tup (K := K) rfl) (pv 0) (pv 4) (fun _ _ => rfl)) (pv 2) (by rfl)) (pss_cons (ps_expr (pe_bm PySem.F.plainAttrs_list PySem.F.slot_list_append PySem.F.type_list_append mt_append (pv 2) (pa_cons (pe_ix (kx_tup (K := K) rfl) (pv 0) (pv 4) (fun _ _ => rfl)) pa_nil)))
        (pss_one (ps_expr (pe_bm PySem.F.plainAttrs_list PySem.F.slot_list_append PySem.F.type_list_append mt_append (pv 3) (pa_cons (pv 4) pa_nil))))) pss_nil)))
    (pss_one (ps_ret (pv 3)))))), ?_⟩
  have z0 : 0 ≤ sizeLine := by decide
  refine ⟨z0, fun a1 h1 => ⟨z0, fun a2 h2 => ?_⟩⟩
  have e2 := (Evl.Ex.new h1 (o := .lst [])).trans (Evl.Ex.new h2 (o := .lst []))
  have n12 : a1 ≠ a2 := ne_of_none upd_same h2
  have b2 : H a2 = none := Evl.fresh_back (Evl.Ex.new h1) h2
  have f1 : upd (upd H a1 (.lst [])) a2 (.lst []) a1 = some (.lst []) := by rw [upd_ne n12]; exact upd_same
  have f2 : upd (upd H a1 (.lst [])) a2 (.lst []) a2 = some (.lst []) := upd_same
  generalize upd (upd H a1 (.lst [])) a2 (.lst []) = H2 at e2 f1 f2 ⊢
  refine ⟨_, rfl, o, cs, rfl, (ho.ex e2).sq, hl, fun ys p hp hso hpn => ?_⟩
  have es := srt_eq hp hso
  subst es
  have lsr : (srt cs).length = cs.length := hp.length_eq
  refine ⟨p, rfl, ⟨_, SqL.of upd_same⟩, ?_⟩
  have X3 := Evl.Ex.new hpn (o := .lst ((srt cs).map V.int))
  have ap : upd H2 p (.lst ((srt cs).map V.int)) p = some (.lst ((srt cs).map V.int)) := upd_same
  have np1 : p ≠ a1 := fun z => by rw [z, f1] at hpn; cases hpn
  have np2 : p ≠ a2 := fun z => by rw [z, f2] at hpn; cases hpn
  have hpH : H p = none := Evl.fresh_back e2 hpn
  refine for_list (K := K) (a := p) (xs := (srt cs).map V.int) (fun i σ H' => (∃ x4 : Option V, σ = [some (.ref r), some (.ref o), some (.ref a1), some (.ref a2), x4]) ∧ H' p = some (.lst ((srt cs).map V.int)) ∧ Ex H H' ∧
      H' a2 = some (.lst ((fstc rs [] ((srt cs).take i)).map V.int)) ∧ H' a1 = some (.lst (((fstc rs [] ((srt cs).take i)).map (lane rs)).map V.int)) ∧ i ≤ 64)
    ⟨⟨_, rfl⟩, ap, e2.trans X3, by simpa [fstc] using X3 _ _ f2, by simpa [fstc] using X3 _ _ f1, by omega⟩ (fun i σ H' _ h => SqL.of h.2.1) ?_ ?_
  · rintro i v σ H3 hv ⟨⟨x4, rfl⟩, hp3, e3, g2, g1, _⟩
    have lt := (List.getElem?_eq_some_iff.mp hv).1
    rw [List.length_map] at lt
    rw [List.getElem?_map, List.getElem?_eq_getElem lt] at hv
    cases hv
    have hmem : (srt cs)[i] ∈ cs := hp.mem_iff.mp (List.getElem_mem lt)
    have hc := hin _ hmem
    have step : (srt cs).take (i + 1) = (srt cs).take i ++ [(srt cs)[i]] := by rw [List.take_succ, List.getElem?_eq_getElem lt]; rfl
    have app := fstc_app (rs := rs) (a := (srt cs).take i) (seen := []) (c := (srt cs)[i])
    rw [← step, List.nil_append] at app
    generalize (srt cs)[i] = c at hc app hmem
    have hrow3 := e3 _ _ hrow
    have lF : (fstc rs [] ((srt cs).take i)).length ≤ 64 := by
      refine Nat.le_trans fstc_sub.length_le ?_
      rw [List.length_take]
      omega
    refine ⟨_, rfl, _, rfl, r, _, _, _, rfl, rfl, SqT.of hrow3, lane_at hc.1 hc.2, _, rfl, a1, _, rfl, .inl (SqL.of g1), rfl, flat_ints _, _, rfl, ?_⟩
    rw [inV_ints]
    by_cases hm : lane rs c ∈ (fstc rs [] ((srt cs).take i)).map (lane rs)
    · rw [decide_eq_true hm]
      rw [if_pos hm, List.append_nil] at app
      exact iteF ⟨⟨_, rfl⟩, hp3, e3, by rw [app]; exact g2, by rw [app]; exact g1, by omega⟩
    · rw [decide_eq_false hm]
      rw [if_neg hm] at app
      refine iteT ⟨_, rfl, .inl ⟨rfl, _, SqL.of g1⟩, _, rfl, _, rfl, r, _, _, _, rfl, rfl, SqT.of hrow3, lane_at hc.1 hc.2, a1, _, _, rfl, rfl, g1, by rw [List.length_map, List.length_map]; exact Nat.lt_of_le_of_lt lF (by decide), ?_⟩
      have g2' : upd H3 a1 (.lst (((fstc rs [] ((srt cs).take i)).map (lane rs)).map V.int ++ [V.int (lane rs c)])) a2 = some (.lst ((fstc rs [] ((srt cs).take i)).map V.int)) := by rw [upd_ne (Ne.symm n12)]; exact g2
      refine ⟨_, rfl, .inl ⟨rfl, _, SqL.of g2'⟩, _, rfl, a2, _, _, rfl, rfl, g2', by rw [List.length_map]; exact Nat.lt_of_le_of_lt lF (by decide), ⟨_, rfl⟩, ?_, Evl.Ex.mut (Evl.Ex.mut e3 h1) b2, ?_, ?_, by omega⟩
      · rw [upd_ne np2, upd_ne np1]; exact hp3
      · rw [upd_same, app, List.map_append]; rfl
      · rw [upd_ne n12, upd_same, app, List.map_append, List.map_append]; rfl
  · rintro σ H3 ⟨⟨x4, rfl⟩, hp3, e3, g2, g1, _⟩
    rw [List.length_map, List.take_of_length_le (Nat.le_refl _)] at g2
    exact ⟨_, rfl, k a2 H3 e3 g2⟩
def spLastL : Sp := fun vs H Q _ => ∃ (r o : Addr) (rs cs : List Int), vs = [.ref r, .ref o] ∧ H r = some (.tup (rs.map V.int)) ∧ Tu H o (cs.map V.int) ∧ (∀ c ∈ cs, 0 ≤ c ∧ c < rs.length) ∧ cs.length ≤ 1000 ∧ ∀ H', Ex H H' → Q (lastV rs cs) H'
theorem ok_lastL {f : Addr} {fd : FuncData} (F : Fun K "last_lane" "last_lane" sLastL f fd) (T : Blt mg) : FnOk P w K mg base CX0 1 f fd ["row", "passed"] spLastL := by
  refine F.ok scLastL (fun vs H Q E h => ?_) (fun cdv A outer s H vs Q E hr h => ?_)
  · obtain ⟨r, o, rs, cs, rfl, _⟩ := h
    rfl
  obtain ⟨r, o, rs, cs, rfl, hrow, ho, hin, hl, k⟩ := h
  refine ⟨_, (pss_one (ps_ret (pe_ifExp (pt_cmpR op_gt (pe_callB (k_len (K := K) rfl) rfl T.len bt_len (pa_cons (pv 1) pa_nil)) pe_int (nomark _)) (pe_ix (kx_tup (K := K) rfl) (pv 0) (pe_ix (kx_tup (K := K) rfl) (pv 1) (pe_un un_neg pe_int) (fun _ _ => rfl)) (fun _ _ => rfl)) pe_non))), ?_⟩
  have q := k H (Evl.Ex.refl _)
  unfold lastV at q
  refine ⟨_, rfl, o, _, rfl, .inr ho.sq, _, _, rfl, rfl, _, rfl, ?_⟩
  cases hc : cs.getLast? with
  | none =>
    have hcs : cs = [] := List.getLast?_eq_none_iff.mp hc
    subst hcs
    exact iteF q
  | some c =>
    rw [hc] at q
    have hne : cs ≠ [] := fun z => by rw [z] at hc; cases hc
    have hpos : 0 < cs.length := List.length_pos_iff.mpr hne
    have hm := hin c (List.mem_of_getLast? hc)
    rw [decide_eq_true (show (0 : Int) < ((cs.map V.int).length : Int) by rw [List.length_map]; omega)]
    have hat : atI (cs.map V.int) (-1) = some (.int c) := by
      unfold atI ixN
      rw [if_neg (by omega), List.length_map, if_pos (by omega)]
      show (cs.map V.int)[(-1 + (cs.length : Int)).toNat]? = _
      rw [List.getElem?_map]
      have e : (-1 + (cs.length : Int)).toNat = cs.length - 1 := by omega
      rw [e, ← List.getLast?_eq_getElem?, hc]
      rfl
    exact iteT ⟨_, rfl, _, rfl, 1, rfl, o, _, _, _, rfl, rfl, ho.sq, hat, r, _, _, _, rfl, rfl, SqT.of hrow, lane_at hm.1 hm.2, q⟩
def spRivOf : Sp := fun vs H Q _ => ∃ (rv : V) (r o l : Addr) (n : Nat) (ps : List (List Int)) (rs cs fs : List Int) (car : Int), vs = [rv, .ref r, .ref o, .ref l, .int car] ∧ RuleAt n ps H rv ∧ n ≤ 100 ∧ H r = some (.tup (rs.map V.int)) ∧ InLanes n rs ∧ Tu H o (cs.map V.int) ∧ (∀ c ∈ cs, 0 ≤ c ∧ c < rs.length) ∧ cs.length ≤ 1000 ∧
  H l = some (.lst (fs.map V.int)) ∧ (∀ c ∈ fs, 0 ≤ c ∧ c < rs.length) ∧ fs.length ≤ 1000 ∧ 0 ≤ car ∧ car < rs.length ∧ ∀ (p : Addr) H', Ex H H' → H' p = some (.lst ((fs.filter fun o => gb (pnAt ps rs cs) (lane rs o) (lane rs car)).map V.int)) → Q (.ref p) H'
theorem ok_rivOf {f : Addr} {fd : FuncData} (F : Fun K "rivals_of" "rivals_of" sRivOf f fd) (T : Blt mg) (clast_lane : Cal P w K mg base 1 "last_lane" ["row", "passed"] spLastL) (cgoes_before : Cal P w K mg base 6 "goes_before" ["rule", "last", "one", "other"] spGoes) : FnOk P w K mg base CX0 7 f fd ["rule", "row", "passed", "firsts", "car"] spRivOf := by
  refine F.ok scRivOf (fun vs H Q E h => ?_) (fun cdv A outer s H vs Q E hr h => ?_)
  · obtain ⟨rv, r, o, l, n, ps, rs, cs, fs, car, rfl, _⟩ := h
    rfl
  obtain ⟨rv, r, o, l, n, ps, rs, cs, fs, car, rfl, hR, hn, hrow, hL, ho, hcs, lcs, hfl, hfs, lfs, c0, c1, k⟩ := h
  refine ⟨_, (pss_cons (ps_set (i := 5) scRivOf.nd rfl (Or.inr rfl) (pe_cal clast_lane (hr.mono (by decide)) rfl (pa_cons (pv 1) (pa_cons (pv 2) pa_nil))))
    (pss_one (ps_ret (pe_lc (own := [("other", 6)]) (g := gName 6)  (by rfl) scRivOf.nd (ki_list (K := K) rfl (pv 3)) (blkOk_by (own := [("other", 6)]) (N := nRivOf) (sc := defScope sRivOf) (by decide +kernel)) (fun _ _ _ _ _ => (pg_name (i := 6) scRivOf.nd rfl (Or.inl rfl))) (fun _ _ _ _ _ => pts_one (pt_val (pe_cal cgoes_before (hr.mono (by decide)) rfl (pa_cons (pv 0) (pa_cons (pv 5) (pa_cons (pe_ix (kx_tup (K := K) rfl) (pv 1) (pv 6) (fun _ _ => rfl)) (pa_cons (pe_ix (kx_tup (K := K) rfl) (pv 1) (pv 4) (fun _ _ => rfl)) pa_nil))))))) (fun _ _ _ _ _ => (pv 6)))))), ?_⟩
  have lok := last_ok hL hcs
  obtain ⟨hpn, hpp⟩ := pn_at (rs := rs) (passed := cs) hR.1 lok.lt
  have inp : ∀ c : Int, 0 ≤ c → c < rs.length → lane rs c ∈ pnAt ps rs cs := fun c h0 h1 => hpp.mem_iff.mpr (mem_upto.mpr (lane_in hL h0 h1))
  refine ⟨_, rfl, _, rfl, r, o, rs, cs, rfl, hrow, ho, hcs, lcs, fun H1 e1 => ?_⟩
  refine ⟨_, rfl, l, rfl, ⟨_, SqL.of (e1 _ _ hfl)⟩, fun D hD => mf_list (fun v => match v with | .int z => gb (pnAt ps rs cs) (lane rs z) (lane rs car) | _ => false) id hD (SqL.of (e1 _ _ hfl)) (by rw [List.length_map]; omega) (fun _ => rfl) (fun x G hx e Q1 q1 => ?_) (fun x G hx e _ Q1 q1 => ⟨_, rfl, q1 G (Evl.Ex.refl _)⟩) (fun H2 e2 h2 => ?_)⟩
  · obtain ⟨z, hz, rfl⟩ := List.mem_map.mp hx
    have hz2 := hfs z hz
    have E := e1.trans e
    exact ⟨_, rfl, _, rfl, _, rfl, _, rfl, r, _, _, _, rfl, rfl, SqT.of (E _ _ hrow), lane_at hz2.1 hz2.2, _, rfl, _, rfl, r, _, _, _, rfl, rfl, SqT.of (E _ _ hrow), lane_at c0 c1, rv, _, n, ps, _, _, _, _, rfl, hR.ex E, lok, hpn, inp z hz2.1 hz2.2, inp car c0 c1, hn, fun H' e' => ⟨_, rfl, q1 H' e'⟩⟩
  · have ef : (fs.map V.int).filter (fun v => match v with | .int z => gb (pnAt ps rs cs) (lane rs z) (lane rs car) | _ => false) = (fs.filter fun o => gb (pnAt ps rs cs) (lane rs o) (lane rs car)).map V.int := by
      rw [List.filter_map]
      rfl
    rw [ef, List.map_id] at h2
    exact k D H2 (e1.trans e2) h2
def spRivAt : Sp := fun vs H Q _ => ∃ (rv : V) (r o : Addr) (n : Nat) (ps : List (List Int)) (rs os : List Int) (k : Nat), vs = [rv, .ref r, .ref o, .int (k : Int)] ∧ RuleAt n ps H rv ∧ n ≤ 100 ∧ H r = some (.tup (rs.map V.int)) ∧ InLanes n rs ∧ Tu H o (os.map V.int) ∧ (∀ c ∈ os, 0 ≤ c ∧ c < rs.length) ∧ os.length < 64 ∧ k < os.length ∧
  ∀ (p : Addr) H', Ex H H' → H' p = some (.tup ((rivK ps rs os k).map V.int)) → Q (.ref p) H'
theorem ok_rivAt {f : Addr} {fd : FuncData} (F : Fun K "rivals_at" "rivals_at" sRivAt f fd) (T : Blt mg) (cfirst_cars : Cal P w K mg base 1 "first_cars" ["row", "cars"] spFirstC) (crivals_of : Cal P w K mg base 7 "rivals_of" ["rule", "row", "passed", "firsts", "car"] spRivOf) : FnOk P w K mg base CX0 8 f fd ["rule", "row", "order", "place"] spRivAt := by
  refine F.ok scRivAt (fun vs H Q E h => ?_) (fun cdv A outer s H vs Q E hr h => ?_)
  · obtain ⟨rv, r, o, n, ps, rs, os, k, rfl, _⟩ := h
    rfl
  obtain ⟨rv, r, o, n, ps, rs, os, k, rfl, hR, hn, hrow, hL, ho, hin, hl, hk, kk⟩ := h
  refine ⟨_, (pss_cons (ps_set (i := 4) scRivAt.nd rfl (Or.inl rfl) (pe_cal cfirst_cars (hr.mono (by decide)) rfl (pa_cons (pv 1) (pa_cons (pe_slice (ks_tup (K := K) rfl) (pv 2) (po_some (pv 3)) po_none) pa_nil))))
    (pss_one (ps_ret (pe_callTy (k_tuple_of (K := K) rfl) rfl T.tuple bt_tuple (pa_cons (pe_cal crivals_of (hr.mono (by decide)) rfl (pa_cons (pv 0) (pa_cons (pv 1) (pa_cons (pe_slice (ks_tup (K := K) rfl) (pv 2) po_none (po_some (pv 3))) (pa_cons (pv 4) (pa_cons (pe_ix (kx_tup (K := K) rfl) (pv 2) (pv 3) (fun _ _ => rfl)) pa_nil)))))) pa_nil))))), ?_⟩
  have hd : ∀ c ∈ os.drop k, 0 ≤ c ∧ c < rs.length := fun c hc => hin c (List.mem_of_mem_drop hc)
  refine ⟨_, rfl, _, rfl, _, rfl, _, rfl, np (sl_ti ho fun b H1 e1 hb => ?_)⟩
  rw [cut_from, ← List.map_drop] at hb
  refine tn ⟨r, b, rs, os.drop k, rfl, e1 _ _ hrow, hb, hd, by rw [List.length_drop]; omega, fun l H2 e2 hl2 => ?_⟩
  have E2 := e1.trans e2
  refine ⟨_, rfl, _, rfl, _, rfl, _, rfl, _, rfl, sl_ti (ho.ex E2) fun b2 H3 e3 hb2 => ?_⟩
  rw [cut_to, ← List.map_take] at hb2
  have hx : os[k]? = some (os.getD k 0) := by rw [List.getD_eq_getElem?_getD, List.getElem?_eq_getElem hk]; rfl
  have hxm := hin _ (List.mem_of_getElem? hx)
  have E3 := E2.trans e3
  refine ⟨_, rfl, _, rfl, _, rfl, o, _, _, _, rfl, rfl, (ho.ex E3).sq, atI_nat (by rw [List.getElem?_map, hx]; rfl), ?_⟩
  refine tn ⟨rv, r, b2, l, n, ps, rs, os.take k, fstc rs [] (srt (os.drop k)), os.getD k 0, rfl, hR.ex E3, hn, E3 _ _ hrow, hL, hb2, fun c hc => hin c (List.mem_of_mem_take hc), by rw [List.length_take]; omega, e3 _ _ hl2, fun c hc => hd c ((srt_perm _).mem_iff.mp (fstc_sub.subset hc)), ?_, hxm.1, hxm.2, fun p H4 e4 hp => ?_⟩
  · refine Nat.le_trans fstc_sub.length_le ?_
    rw [(srt_perm _).length_eq, List.length_drop]
    omega
  · exact tn ⟨p, _, rfl, .inl ⟨SqL.of hp, fun q hq => kk q _ ((E3.trans e4).trans (Evl.Ex.new hq)) upd_same⟩⟩
/-- the rivals as data -/
def rivD (ps : List (List Int)) (rs os : List Int) : PyData := .tuple ((List.range os.length).map fun k => .tuple ((rivK ps rs os k).map .int))
theorem tups_dv {H : Hp} {f : Nat → List Int} : ∀ {ys : List V} {j : Nat}, (∀ (i : Nat) (v : V), ys[i]? = some v → ∃ a, v = .ref a ∧ H a = some (.tup ((f (j + i)).map V.int))) → DvAll H ys ((List.range' j ys.length).map fun k => .tuple ((f k).map .int))
  | [], j, _ => .nil
  | y :: r, j, h => by
    obtain ⟨a, rfl, ha⟩ := h 0 y rfl
    have ih := tups_dv (H := H) (f := f) (ys := r) (j := j + 1) fun i v hv => by
      obtain ⟨b, q1, q2⟩ := h (i + 1) v (by simpa using hv)
      exact ⟨b, q1, by rw [show j + 1 + i = j + (i + 1) by omega]; exact q2⟩
    simp only [List.length_cons, List.range'_succ, List.map_cons]
    exact .cons (.tup ha (dv_ints H _)) ih
def spRiv : Sp := fun vs H Q _ => ∃ (rv : V) (r o : Addr) (n : Nat) (ps : List (List Int)) (rs os : List Int), vs = [rv, .ref r, .ref o] ∧ RuleAt n ps H rv ∧ n ≤ 100 ∧ H r = some (.tup (rs.map V.int)) ∧ InLanes n rs ∧ Tu H o (os.map V.int) ∧ os.Perm (upto rs.length) ∧ rs.length < 64 ∧
  ∀ (p : Addr) (ys : List V) H', Ex H H' → H' p = some (.tup ys) → ys.length = os.length → (∀ (i : Nat) (v : V), ys[i]? = some v → ∃ a, v = .ref a ∧ H' a = some (.tup ((rivK ps rs os i).map V.int))) → Q (.ref p) H'
theorem ok_riv {f : Addr} {fd : FuncData} (F : Fun K "rivals" "rivals" sRiv f fd) (T : Blt mg) (ccheck_order : Cal P w K mg base 5 "check_order" ["row", "order"] spCheck) (crivals_at : Cal P w K mg base 8 "rivals_at" ["rule", "row", "order", "place"] spRivAt) : FnOk P w K mg base CX0 9 f fd ["rule", "row", "order"] spRiv := by
  refine F.ok scRiv (fun vs H Q E h => ?_) (fun cdv A outer s H vs Q E hr h => ?_)
  · obtain ⟨rv, r, o, n, ps, rs, os, rfl, _⟩ := h
    rfl
  obtain ⟨rv, r, o, n, ps, rs, os, rfl, hR, hn, hrow, hL, ho, hp, hl, k⟩ := h
  refine ⟨_, (pss_cons (ps_expr (pe_cal ccheck_order (hr.mono (by decide)) rfl (pa_cons (pv 1) (pa_cons (pv 2) pa_nil))))
    (pss_one (ps_ret (pe_callTy (k_tuple_of (K := K) rfl) rfl T.tuple bt_tuple (pa_cons (pe_lc (own := [("place", 3)]) (g := gName 3)  (by rfl) scRiv.nd (pi_range1 rfl T.range (pa_cons (pe_callB (k_len (K := K) rfl) rfl T.len bt_len (pa_cons (pv 2) pa_nil)) pa_nil)) (blkOk_by (own := [("place", 3)]) (N := nRiv) (sc := defScope sRiv) (by decide +kernel)) (fun _ _ _ _ _ => (pg_name (i := 3) scRiv.nd rfl (Or.inl rfl))) (fun _ _ _ _ _ => pts_nil) (fun _ _ _ _ _ => (pe_cal crivals_at (hr.mono (by decide)) rfl (pa_cons (pv 0) (pa_cons (pv 1) (pa_cons (pv 2) (pa_cons (pv 3) pa_nil))))))) pa_nil))))), ?_⟩
  have lo : os.length = rs.length := by rw [hp.length_eq, upto_len]
  have hin : ∀ c ∈ os, 0 ≤ c ∧ c < rs.length := fun c hc => by have := mem_upto.mp (hp.mem_iff.mp hc); omega
  have ll : ((os.map V.int).length : Int) = ((os.length : Nat) : Int) := by rw [List.length_map]
  refine ⟨_, rfl, _, rfl, r, .ref o, .tuple (os.map .int), _, rfl, hrow, by rw [List.length_map]; exact hl, ho.dv (dv_ints _ os), ⟨os, rfl, by rw [List.length_map]; exact hp⟩, fun H1 e1 => ?_⟩
  refine ⟨_, rfl, o, _, rfl, .inr (ho.ex e1).sq, _, rfl, by omega, by omega, fun D hD => ?_⟩
  rw [ll, Int.toNat_natCast]
  refine made_range (fun i v G => ∃ a, v = .ref a ∧ G a = some (.tup ((rivK ps rs os i).map V.int))) hD (by omega) (fun i v G G' _ _ e ⟨a, q1, q2⟩ => ⟨a, q1, e _ _ tup_nolst q2⟩) (fun _ => rfl) (fun i hi G e5 Q1 q1 => ?_) (fun ys G hy e6 hD4 hm => ?_)
  · have E := e1.trans e5
    exact ⟨_, rfl, _, rfl, _, rfl, _, rfl, rv, r, o, n, ps, rs, os, i, rfl, hR.ex E, hn, E _ _ hrow, hL, ho.ex E, hin, by omega, hi, fun p H' e' hp' => q1 _ H' e' ⟨p, rfl, hp'⟩⟩
  · refine ⟨D, _, rfl, .inl ⟨SqL.of hD4, fun q hq => k q ys _ ((e1.trans e6).trans (Evl.Ex.new hq)) upd_same hy fun i v hv => ?_⟩⟩
    obtain ⟨a, q1, q2⟩ := hm i v hv
    exact ⟨a, q1, Evl.Ex.new hq _ _ q2⟩
end
end Lr

namespace Lr
open PySem L2
theorem fm_len {f : Int → List Int} (h : ∀ a, (f a).length ≤ 1) : ∀ l : List Int, (l.flatMap f).length ≤ l.length
  | [] => by simp
  | x :: r => by
    have := fm_len h r
    have := h x
    rw [List.flatMap_cons, List.length_append, List.length_cons]
    omega
theorem kx_snoc {rs os : List Int} {i : Nat} {x : Int} (h : os[i]? = some x) : kx rs (os.take (i + 1)) = 1 + (lane rs x).toNat := by
  unfold kx
  have : os.take (i + 1) = os.take i ++ [x] := by rw [List.take_succ, h]; rfl
  rw [this, List.getLast?_append]
  simp
abbrev sLRiv : Stmt := topS 31
abbrev nLRiv : List Str := ["_law_rule_here", "_law_row_here", "_law_order", "_law_found", "_law_preference", "_law_place", "_law_car", "_law_left", "_law_here", "_law_lane", "_law_other"]
theorem scLRiv : FnScope nLRiv ["_law_rule_here", "_law_row_here", "_law_order"] (defScope sLRiv) :=
  ⟨rfl, rfl, rfl, by decide +kernel, rfl, by decide +kernel, by decide +kernel⟩
section
variable {P : Program} {w : World} {K : PySem.W.Frag} {mg : Str → Option Value} {base : Heap}
def spLRiv : Sp := fun vs H Q _ => ∃ (rv : V) (r o : Addr) (n : Nat) (ps : List (List Int)) (rs os : List Int), vs = [rv, .ref r, .ref o] ∧ RuleAt n ps H rv ∧ n ≤ 100 ∧ H r = some (.tup (rs.map V.int)) ∧ InLanes n rs ∧ Tu H o (os.map V.int) ∧ os.Perm (upto rs.length) ∧ rs.length < 64 ∧
  ∀ (p : Addr) (as : List Addr) H', Ex H H' → H' p = some (.lst (as.map V.ref)) → as.length = os.length → (∀ (i : Nat) (a : Addr), as[i]? = some a → H' a = some (.lst ((rivK ps rs os i).map V.int))) → Q (.ref p) H'
theorem ok_lriv {f : Addr} {fd : FuncData} (F : Fun K "_law_rivals" "_law_rivals" sLRiv f fd) (T : Blt mg) : FnOk P w K mg base CX0 1 f fd ["_law_rule_here", "_law_row_here", "_law_order"] spLRiv := by
  refine F.ok scLRiv (fun vs H Q E h => ?_) (fun cdv A outer s H vs Q E hr h => ?_)
  · obtain ⟨rv, r, o, n, ps, rs, os, rfl, _⟩ := h
    rfl
  obtain ⟨rv, r, o, n, ps, rs, os, rfl, hR, hn, hrow, hL, ho, hp, hl, k⟩ := h
  obtain ⟨ra, xs, rfl, hra, lxs, hxs⟩ := hR.get
  refine ⟨_, (pss_cons (ps_par (i := 3) (j := 4) rfl scLRiv.nd rfl rfl (by decide) rfl rfl (pa_cons (pe_lst pa_nil) (pa_cons (pe_ix (kx_tup (K := K) rfl) (pv 0) pe_int (fun _ _ => rfl)) pa_nil)) rfl)
    (pss_cons (ps_for PassesOwn.never rfl (pi_enumT rfl T.enumerate (pa_cons (pv 2) pa_nil)) (pg_tup rfl (pgs_cons (pg_name (i := 5) scLRiv.nd rfl (Or.inl rfl)) (pgs_cons (pg_name (i := 6) scLRiv.nd rfl (Or.inl rfl)) pgs_nil))) (pss_cons (ps_par (i := 7) (j := 8) rfl scLRiv.nd rfl rfl (by decide) rfl rfl (pa_cons (pe_callB (cr_sortT (K := K) rfl) rfl T.sorted bt_sorted (pa_cons (pe_slice (ks_tup (K := K) rfl) (pv 2) (po_some (pv 5)) po_none) pa_nil)) (pa_cons (pe_lst pa_nil) pa_nil)) rfl)
      (pss_cons (ps_for PassesOwn.never rfl (ki_tup (K := K) rfl (pe_slice (ks_tup (K := K) rfl) (pv 4) po_none (po_some (pe_tix (K := K) rfl (pv 4) (pe_ix (kx_tup (K := K) rfl) (pv 1) (pv 6) (fun _ _ => rfl)))))) (pg_name (i := 9) scLRiv.nd rfl (Or.inr rfl)) (pss_one (ps_expr (pe_bm PySem.F.plainAttrs_list PySem.F.slot_list_extend PySem.F.type_list_extend mt_extend (pv 8) (pa_cons (pe_slice (ks_list (K := K) rfl) (pe_lc (own := [("_law_other", 10)]) (g := gName 10)  (by rfl) scLRiv.nd (ki_list (K := K) rfl (pv 7)) (blkOk_by (own := [("_law_other", 10)]) (N := nLRiv) (sc := defScope sLRiv) (by decide +kernel)) (fun _ _ _ _ _ => (pg_name (i := 10) scLRiv.nd rfl (Or.inl rfl))) (fun _ _ _ _ _ => pts_one (pt_cmpR op_eq (pe_ix (kx_tup (K := K) rfl) (pv 1) (pv 10) (fun _ _ => rfl)) (pv 9) (nomark _))) (fun _ _ _ _ _ => (pv 10))) po_none (po_some pe_int)) pa_nil)))))
      (pss_cons (ps_expr (pe_bm PySem.F.plainAttrs_list PySem.F.slot_list_append PySem.F.type_list_append mt_append (pv 3) (pa_cons (pe_callB (cr_sortL (K := K) rfl) rfl T.sorted bt_sorted (pa_cons (pv 8) pa_nil)) pa_nil)))
      (pss_one (ps_set (i := 4) scLRiv.nd rfl (Or.inl rfl) (pe_ix (kx_tup (K := K) rfl) (pv 0) (pe_op op_add pe_int (pe_ix (kx_tup (K := K) rfl) (pv 1) (pv 6) (fun _ _ => rfl))) (fun _ _ => rfl))))))))
    (pss_one (ps_ret (pv 3))))), ?_⟩
  have z0 : 0 ≤ sizeLine := by decide
  have lo : os.length = rs.length := by rw [hp.length_eq, upto_len]
  have nos : os.Nodup := hp.nodup_iff.mpr (upto_nd _)
  have hin : ∀ c ∈ os, 0 ≤ c ∧ c < rs.length := fun c hc => by have := mem_upto.mp (hp.mem_iff.mp hc); omega
  have rule_ix : ∀ (i : Nat) (passed : List Int) (G : Hp) (Q1 : VK), i = kx rs passed → i < n + 1 → Ex H G → (∀ pa, Ti G pa ((pnAt ps rs passed).map V.int) → Q1 (.ref pa) G) → rIxT K (.ref ra) (.int (i : Int)) G Q1 := fun i passed G Q1 hi hlt e q => by
    subst hi
    obtain ⟨pa, pn, h1, h2, h3, _⟩ := hxs _ hlt
    rw [(pn_at hR.1 hlt).1] at h2
    cases h2
    exact ⟨ra, xs, _, _, rfl, rfl, SqT.of (e _ _ hra), atI_nat h1, q pa (h3.ex e)⟩
  -- found, preference = [], rule[0]
  refine ⟨z0, fun fa hfa => ⟨_, rfl, tc (rule_ix 0 (os.take 0) _ _ rfl (by omega) (Evl.Ex.new hfa) fun p0 hp0 => ?_)⟩⟩
  refine ⟨_, _, rfl, ?_⟩
  have e1 : Ex H (upd H fa (.lst [])) := Evl.Ex.new hfa
  have af : upd H fa (.lst []) fa = some (.lst []) := upd_same
  generalize upd H fa (.lst []) = H1 at e1 af hp0 ⊢
  -- for place, car in enumerate(order)
  refine ⟨_, rfl, o, _, rfl, ho.ex e1, ?_⟩
  refine for_enumT (K := K) (xs := os.map V.int) (fun i σ H' => ∃ (as : List Addr) (pa : Addr) (w5 w6 w7 w8 w9 w10 : Option V), σ = [some (.ref ra), some (.ref r), some (.ref o), some (.ref fa), some (.ref pa), w5, w6, w7, w8, w9, w10] ∧ H' fa = some (.lst (as.map V.ref)) ∧ as.length = i ∧ fa ∉ as ∧
      (∀ (j : Nat) (a : Addr), as[j]? = some a → H' a = some (.lst ((rivK ps rs os j).map V.int))) ∧ Ti H' pa ((pnAt ps rs (os.take i)).map V.int) ∧ Ex H H' ∧ i ≤ 64)
    ⟨[], p0, _, _, _, _, _, _, rfl, af, rfl, List.not_mem_nil, fun j a h => by simp at h, hp0, e1, by omega⟩ (fun i σ2 H2 ⟨_, _, _, _, _, _, _, _, _, _, _, _, _, _, e, _⟩ => ho.ex e) ?turn ?after
  case after =>
    rintro σ H2 ⟨as, pa, w5, w6, w7, w8, w9, w10, rfl, hf, la, _, hit, _, e, _⟩
    rw [List.length_map] at la
    exact ⟨_, rfl, k fa as H2 e hf la hit⟩
  case turn =>
    rintro i v σ H2 H3 hv ⟨as, pa, w5, w6, w7, w8, w9, w10, rfl, hf2, la, nfa, hit2, hpa2, e2, _⟩ e23
    have lt := (List.getElem?_eq_some_iff.mp hv).1
    rw [List.length_map] at lt
    have hx : os[i]? = some os[i] := List.getElem?_eq_getElem lt
    rw [List.getElem?_map, hx] at hv
    cases hv
    have hxm := hin _ (List.mem_of_getElem? hx)
    have gD : os.getD i 0 = os[i] := by rw [List.getD_eq_getElem?_getD, hx]; rfl
    generalize hxx : os[i] = x at hx hxm gD ⊢
    have lx := lane_in hL hxm.1 hxm.2
    have e3 := e2.trans e23
    have hf3 := e23 _ _ hf2
    have hit3 : ∀ (j : Nat) (a : Addr), as[j]? = some a → H3 a = some (.lst ((rivK ps rs os j).map V.int)) := fun j a h => e23 _ _ (hit2 j a h)
    have hpa3 := hpa2.ex e23
    clear hf2 hit2 hpa2 e2 e23
    have lok := last_ok (rs := rs) (cs := os.take i) hL fun c hc => hin c (List.mem_of_mem_take hc)
    obtain ⟨hpn, hpp⟩ := pn_at (rs := rs) (passed := os.take i) hR.1 lok.lt
    have npn : (pnAt ps rs (os.take i)).Nodup := hpp.nodup_iff.mpr (upto_nd _)
    have lpn : (pnAt ps rs (os.take i)).length = n := by rw [hpp.length_eq, upto_len]
    have eriv : rivK ps rs os i = rivs rs (pnAt ps rs (os.take i)) (os.drop i) x := by unfold rivK; rw [gD]
    have here_perm := rivs_here (rs := rs) (pn := pnAt ps rs (os.take i)) (left := os.drop i) (x := x) (nos.sublist (List.drop_sublist _ _)) npn fun c hc => by
      have hcm := hin c (List.mem_of_mem_drop hc)
      exact hpp.mem_iff.mpr (mem_upto.mpr (lane_in hL hcm.1 hcm.2))
    generalize hpnn : pnAt ps rs (os.take i) = pn at hpa3 npn lpn eriv here_perm hpp
    have hLin : lane rs x ∈ pn := hpp.mem_iff.mpr (mem_upto.mpr lx)
    -- left, here = sorted(order[place:]), []
    refine ⟨_, rfl, _, rfl, _, rfl, np (sl_ti (ho.ex e3) fun b H4 e4 hb => ?_)⟩
    rw [cut_from, ← List.map_drop] at hb
    have ldr : (os.drop i).length < 64 := by rw [List.length_drop]; omega
    refine tn ⟨b, os.drop i, rfl, hb.sq, ldr, fun ys p hpy hso hpn2 => ⟨z0, fun h hh => ⟨_, _, rfl, ?_⟩⟩⟩
    have es := srt_eq hpy hso
    subst es
    have lsr : (srt (os.drop i)).length = (os.drop i).length := hpy.length_eq
    have X5 := Evl.Ex.new hpn2 (o := .lst ((srt (os.drop i)).map V.int))
    have X6 := X5.trans (Evl.Ex.new hh (o := .lst []))
    have hp6 := Evl.Ex.new hh (o := .lst []) _ _ (upd_same (H := H4) (a := p) (o := .lst ((srt (os.drop i)).map V.int)))
    have hh6 : upd (upd H4 p (.lst ((srt (os.drop i)).map V.int))) h (.lst []) h = some (.lst []) := upd_same
    have X3 := e4.trans X6
    have fh : H3 h = none := Evl.fresh_back (e4.trans X5) hh
    have nhp : p ≠ h := ne_of_none (upd_same (H := H4) (a := p) (o := .lst ((srt (os.drop i)).map V.int))) hh
    generalize upd (upd H4 p (.lst ((srt (os.drop i)).map V.int))) h (.lst []) = H6 at hp6 hh6 X3 ⊢
    clear X5 X6 hh hpn2 hb e4
    have hpa6 := hpa3.ex X3
    have e6 := e3.trans X3
    -- for lane in preference[:preference.index(row[car])]
    refine ⟨_, rfl, _, rfl, ⟨pa, _, rfl, hpa6⟩, _, rfl, _, rfl, r, _, _, _, rfl, rfl, SqT.of (e6 _ _ hrow), lane_at hxm.1 hxm.2, pa, pn, lane rs x, pos pn (lane rs x), rfl, rfl, hpa6.sq, pos_get hLin, fun m hm => pos_no hm, _, rfl, sl_ti hpa6.tu fun b2 H7 e7 hb2 => ?_⟩
    rw [cut_to, ← List.map_take] at hb2
    have hp7 := e7 _ _ hp6
    have hh7 := e7 _ _ hh6
    have X7 := X3.trans e7
    clear hp6 hh6 hpa6 e6 e7 X3
    have lm : (pn.take (pos pn (lane rs x))).length ≤ 100 := by rw [List.length_take]; omega
    have ehere : hereOf rs pn (os.drop i) x = (pn.take (pos pn (lane rs x))).flatMap fun L => ((srt (os.drop i)).filter fun c => decide (V.int (lane rs c) = V.int L)).take 1 := rfl
    have f1 : ∀ L : Int, (((srt (os.drop i)).filter fun c => decide (V.int (lane rs c) = V.int L)).take 1).length ≤ 1 := fun L => by rw [List.length_take]; omega
    generalize pn.take (pos pn (lane rs x)) = ls at hb2 lm ehere
    have hsr : ∀ c ∈ srt (os.drop i), 0 ≤ c ∧ c < rs.length := fun c hc => hin c (List.mem_of_mem_drop ((srt_perm _).mem_iff.mp hc))
    refine ⟨b2, rfl, ⟨_, hb2.sq⟩, ?_⟩
    refine for_it (walk_tup (K := K) (a := b2) (xs := ls.map V.int)) (fun j σ H' => (∃ w9 w10 : Option V, σ = [some (.ref ra), some (.ref r), some (.ref o), some (.ref fa), some (.ref pa), some (.int (i : Int)), some (.int x), some (.ref p), some (.ref h), w9, w10]) ∧
        H' h = some (.lst (((ls.take j).flatMap fun L => ((srt (os.drop i)).filter fun c => decide (V.int (lane rs c) = V.int L)).take 1).map V.int)) ∧ H' p = some (.lst ((srt (os.drop i)).map V.int)) ∧ Tu H' b2 (ls.map V.int) ∧ Ex H3 H')
      ⟨⟨_, _, rfl⟩, by simpa using hh7, hp7, hb2, X7⟩ (fun j σ H' _ h => h.2.2.2.1.sq) ?turn ?after
    case turn =>
      rintro j v σ H8 H8' hj ⟨⟨w9, w10, rfl⟩, hh8, hp8, hb8, X8⟩ ⟨rfl, hv⟩
      rw [List.length_map] at hj
      rw [List.getElem?_map, List.getElem?_eq_getElem hj] at hv
      cases hv
      have step : ls.take (j + 1) = ls.take j ++ [ls[j]] := by rw [List.take_succ, List.getElem?_eq_getElem hj]; rfl
      generalize ls[j] = L at step ⊢
      have lacc : ((ls.take j).flatMap fun L => ((srt (os.drop i)).filter fun c => decide (V.int (lane rs c) = V.int L)).take 1).length ≤ 100 := by
        refine Nat.le_trans (fm_len f1 _) ?_
        rw [List.length_take]
        omega
      have e8 := e3.trans X8
      refine ⟨_, rfl, .inl ⟨rfl, _, SqL.of hh8⟩, _, rfl, p, rfl, ⟨_, SqL.of hp8⟩, fun D hD => mf_list (fun v => match v with | .int z => decide (V.int (lane rs z) = V.int L) | _ => false) id hD (SqL.of hp8) (by rw [List.length_map]; omega) (fun _ => rfl) (fun y G hy e Q1 q1 => ?_) (fun y G hy e _ Q1 q1 => ⟨_, rfl, q1 G (Evl.Ex.refl _)⟩) (fun H9 e9 h9 => ?_)⟩
      · obtain ⟨z, hz, rfl⟩ := List.mem_map.mp hy
        have hz2 := hsr z hz
        exact ⟨_, rfl, _, rfl, r, _, _, _, rfl, rfl, SqT.of ((e8.trans e) _ _ hrow), lane_at hz2.1 hz2.2, _, rfl, rfl, _, rfl, q1 G (Evl.Ex.refl _)⟩
      · have ef : ((srt (os.drop i)).map V.int).filter (fun v => match v with | .int z => decide (V.int (lane rs z) = V.int L) | _ => false) = ((srt (os.drop i)).filter fun c => decide (V.int (lane rs c) = V.int L)).map V.int := by
          rw [List.filter_map]
          rfl
        rw [ef, List.map_id] at h9
        refine ⟨1, rfl, D, _, rfl, SqL.of h9, fun q hq => ?_⟩
        rw [show (some (1 : Int)) = some ((1 : Nat) : Int) from rfl, cut_to, ← List.map_take]
        have X10 := e9.trans (Evl.Ex.new hq (o := .lst ((((srt (os.drop i)).filter fun c => decide (V.int (lane rs c) = V.int L)).take 1).map V.int)))
        refine tn ⟨h, q, _, _, rfl, rfl, X10 _ _ hh8, upd_same, ?_, ?_⟩
        · rw [List.length_map, List.length_map]
          have := f1 L
          exact Nat.le_trans (by omega : _ ≤ 101) (by decide)
        · refine ⟨⟨_, _, rfl⟩, ?_, ?_, ?_, Evl.Ex.mut (X8.trans X10) fh⟩
          · rw [upd_same, step, List.flatMap_append, List.map_append]
            simp
          · rw [upd_ne nhp]
            exact X10 _ _ hp8
          · exact (hb8.ex X10).lst (X10 _ _ hh8)
    case after =>
      rintro σ H8 ⟨⟨w9, w10, rfl⟩, hh8, hp8, hb8, X8⟩
      rw [List.length_map, List.take_of_length_le (Nat.le_refl _), ← ehere] at hh8
      have e8 := e3.trans X8
      have hlen : (hereOf rs pn (os.drop i) x).length < 64 := by
        rw [here_perm.length_eq]
        refine Nat.lt_of_le_of_lt (List.Sublist.length_le (List.filter_sublist.trans fstc_sub)) ?_
        rw [lsr]
        exact ldr
      have hf8 := X8 _ _ hf3
      -- found.append(sorted(here))
      refine ⟨_, rfl, .inl ⟨rfl, _, SqL.of hf8⟩, _, rfl, h, _, rfl, SqL.of hh8, hlen, fun ys q hq hso hqn => ?_⟩
      have ey : ys = rivK ps rs os i := by
        rw [eriv]
        exact le_uniq (hq.trans here_perm) hso rivs_le
      subst ey
      have X9 := Evl.Ex.new hqn (o := .lst ((rivK ps rs os i).map V.int))
      have nqf : q ≠ fa := fun z => by rw [z, hf8] at hqn; cases hqn
      refine tn ⟨fa, _, _, rfl, rfl, X9 _ _ hf8, by rw [List.length_map]; exact Nat.lt_of_le_of_lt (by omega : as.length ≤ 64) (by decide), ?_⟩
      have e10 : Ex H (upd (upd H8 q (.lst ((rivK ps rs os i).map V.int))) fa (.lst (as.map V.ref ++ [V.ref q]))) := Evl.Ex.mut (e8.trans X9) hfa
      have hf10 : upd (upd H8 q (.lst ((rivK ps rs os i).map V.int))) fa (.lst (as.map V.ref ++ [V.ref q])) fa = some (.lst ((as ++ [q]).map V.ref)) := by rw [upd_same, List.map_append]; rfl
      have hit10 : ∀ (j : Nat) (a : Addr), (as ++ [q])[j]? = some a → upd (upd H8 q (.lst ((rivK ps rs os i).map V.int))) fa (.lst (as.map V.ref ++ [V.ref q])) a = some (.lst ((rivK ps rs os j).map V.int)) := fun j a hj => by
        by_cases hjl : j < as.length
        · rw [List.getElem?_append_left hjl] at hj
          have na : a ≠ fa := fun z => nfa (z ▸ List.mem_of_getElem? hj)
          rw [upd_ne na]
          exact X9 _ _ (X8 _ _ (hit3 j a hj))
        · have ej : j = as.length := by
            have := (List.getElem?_eq_some_iff.mp hj).1
            simp at this
            omega
          subst ej
          simp at hj
          subst hj
          rw [upd_ne nqf, upd_same, la]
      have nfa10 : fa ∉ as ++ [q] := fun z => by
        rcases List.mem_append.mp z with q1 | q1
        · exact nfa q1
        · exact nqf (List.mem_singleton.mp q1).symm
      generalize upd (upd H8 q (.lst ((rivK ps rs os i).map V.int))) fa (.lst (as.map V.ref ++ [V.ref q])) = H10 at e10 hf10 hit10 ⊢
      -- preference = rule[1 + row[car]]
      have el : (1 : Int) + lane rs x = ((1 + (lane rs x).toNat : Nat) : Int) := by omega
      refine ⟨_, rfl, _, rfl, _, rfl, r, _, _, _, rfl, rfl, SqT.of (e10 _ _ hrow), lane_at hxm.1 hxm.2, _, _, rfl, rfl, ?_⟩
      show rIxT K (.ref ra) (.int (1 + lane rs x)) H10 _
      rw [el]
      refine rule_ix _ (os.take (i + 1)) _ _ (kx_snoc hx).symm (by omega) e10 fun pa2 hpa2 => ?_
      exact ⟨as ++ [q], pa2, _, _, _, _, _, _, rfl, hf10, by simp [la], nfa10, hit10, hpa2, e10, by omega⟩
end
end Lr

namespace Lr
open PySem L2
theorem ints_d {H : Hp} {a : Addr} {ns : List Int} (h : Tu H a (ns.map V.int)) : Dv H (.ref a) (.tuple (ns.map .int)) := h.dv (dv_ints H ns)
theorem ints_s {ns : List Int} (h : ∀ x ∈ ns, 0 ≤ x ∧ x < 100) (hl : ns.length ≤ 64) : Sh 2000 1 (.tuple (ns.map .int)) := (ints_sh (c := 64) (fun x hx => by have := h x hx; omega) hl).mono (by decide) (by decide)
theorem pick4 {i : Nat} {a b c d : Nat} : ∃ u : Nat, atI [V.int (a : Int), V.int (b : Int), V.int (c : Int), V.int (d : Int)] ((0 + (i : Int)).fmod 4) = some (.int (u : Int)) ∧ (u = a ∨ u = b ∨ u = c ∨ u = d) := by
  have b0 := Int.fmod_nonneg_of_pos (0 + (i : Int)) (b := 4) (by decide)
  have b1 := Int.fmod_lt_of_pos (0 + (i : Int)) (b := 4) (by decide)
  have : (0 + (i : Int)).fmod 4 = 0 ∨ (0 + (i : Int)).fmod 4 = 1 ∨ (0 + (i : Int)).fmod 4 = 2 ∨ (0 + (i : Int)).fmod 4 = 3 := by omega
  rcases this with q | q | q | q
  · rw [q]; exact ⟨a, rfl, .inl rfl⟩
  · rw [q]; exact ⟨b, rfl, .inr (.inl rfl)⟩
  · rw [q]; exact ⟨c, rfl, .inr (.inr (.inl rfl))⟩
  · rw [q]; exact ⟨d, rfl, .inr (.inr (.inr rfl))⟩
theorem three_fit {a b d : PyData} (ha : Sh 100000 6 a) (hb : Sh 100000 6 b) (hd : Sh 100000 6 d) : Fit (.list [a, b, d]) :=
  (sh_lst (es := [a, b, d]) (c := 3) (m := 100000) (k := 6) (fun e he => by
    simp only [List.mem_cons, List.not_mem_nil, or_false] at he
    rcases he with rfl | rfl | rfl
    · exact ha
    · exact hb
    · exact hd) (Nat.le_refl 3)).fit (by decide) (by decide)
theorem rule_s {n : Nat} {ps : List (List Int)} (hR : RuleOk n ps) (hn : n ≤ 6) : Sh 100000 6 (ruleD ps) := by
  refine (sh_tup (m := 2000) (k := 1) (c := 7) (fun e he => ?_) (by rw [List.length_map, hR.2.1]; omega)).mono (by decide) (by decide)
  obtain ⟨p, hp, rfl⟩ := List.mem_map.mp he
  have pp := hR.2.2 p hp
  exact ints_s (fun x hx => by have := mem_upto.mp (pp.mem_iff.mp hx); omega) (by rw [pp.length_eq, upto_len]; omega)
theorem rivK_in {ps : List (List Int)} {rs os : List Int} {k : Nat} : ∀ x ∈ rivK ps rs os k, x ∈ os := fun x hx => by
  have h1 := (List.mem_filter.mp hx).1
  exact List.mem_of_mem_drop ((srt_perm _).mem_iff.mp (fstc_sub.subset h1))
theorem rivK_len {ps : List (List Int)} {rs os : List Int} {k : Nat} : (rivK ps rs os k).length ≤ os.length := by
  refine Nat.le_trans (List.Sublist.length_le (List.filter_sublist.trans fstc_sub)) ?_
  rw [(srt_perm _).length_eq, List.length_drop]
  omega
theorem riv_s {ps : List (List Int)} {rs os : List Int} (h : ∀ x ∈ os, 0 ≤ x ∧ x < 100) (hl : os.length ≤ 40) : Sh 100000 6 (rivD ps rs os) := by
  refine (sh_tup (m := 2000) (k := 1) (c := 40) (fun e he => ?_) (by rw [List.length_map, List.length_range]; exact hl)).mono (by decide) (by decide)
  obtain ⟨k, _, rfl⟩ := List.mem_map.mp he
  exact ints_s (fun x hx => h x (rivK_in x hx)) (Nat.le_trans rivK_len (by omega))
theorem riv_dv {H : Hp} {p : Addr} {ys : List V} {ps : List (List Int)} {rs os : List Int} (hp : H p = some (.tup ys)) (hl : ys.length = os.length) (h : ∀ (i : Nat) (v : V), ys[i]? = some v → ∃ a, v = .ref a ∧ H a = some (.tup ((rivK ps rs os i).map V.int))) : Dv H (.ref p) (rivD ps rs os) := by
  have := tups_dv (H := H) (f := rivK ps rs os) (ys := ys) (j := 0) fun i v hv => by rw [Nat.zero_add]; exact h i v hv
  rw [hl, ← List.range_eq_range'] at this
  exact .tup hp this
abbrev sLaw : Stmt := topS 32
abbrev nLaw : List Str := ["_law_script", "_law_urn_here", "_law_turn", "_law_rule_here", "_law_row_here", "_law_order", "_law_value", "_law_due", "_law_shown", "_law_here"]
theorem scLaw : FnScope nLaw ["_law_script"] (defScope sLaw) :=
  ⟨rfl, rfl, rfl, by decide +kernel, rfl, by decide +kernel, by decide +kernel⟩
section
variable {P : Program} {w : World} {K : PySem.W.Frag} {mg : Str → Option Value} {base : Heap}
def spLaw (K : PySem.W.Frag) : Sp := fun vs H Q _ => ∃ (a : Addr) (ns : List Int), vs = [.ref a] ∧ SqL K H a (ns.map V.int) ∧ ns.length ≤ 63 ∧ ∀ H', Q (.bl true) H'
theorem ok_law {f : Addr} {fd : FuncData} (hs : HasSys base) (F : Fun K "law" "law" sLaw f fd) (T : Blt mg) (c_law_urn : Cal P w K mg base 1 "_law_urn" ["_law_script"] (spUrn P w K))
    (c_law_rule : Cal P w K mg base 3 "_law_rule" ["_law_urn_here"] (spRule P w)) (c_law_row : Cal P w K mg base 2 "_law_row" ["_law_urn_here", "_law_rule_here", "_law_cars"] (spRow P w))
    (c_law_mixed : Cal P w K mg base 2 "_law_mixed" ["_law_urn_here", "_law_items"] (spMixed P w K)) (c_law_word : Cal P w K mg base 2 "_law_word" ["_law_urn_here", "_law_many"] (spWord P w))
    (c_law_played : Cal P w K mg base 1 "_law_played" ["_law_rule_here", "_law_row_here", "_law_word_here"] spPlayed) (c_law_swapped : Cal P w K mg base 2 "_law_swapped" ["_law_urn_here", "_law_order"] (spSwapped P w))
    (c_law_rivals : Cal P w K mg base 1 "_law_rivals" ["_law_rule_here", "_law_row_here", "_law_order"] spLRiv) (crivals : Cal P w K mg base 9 "rivals" ["rule", "row", "order"] spRiv) : FnG P w K mg base 10 f fd ["_law_script"] (spLaw K) := by
  refine fnG F scLaw (fun vs H Q E h => ?_) (fun cdv A outer s H vs Q E hr hg h => ?_)
  · obtain ⟨a, ns, rfl, _⟩ := h
    rfl
  obtain ⟨a, ns, rfl, hS, hlen, kQ⟩ := h
  refine ⟨_, (pss_cons (ps_set (i := 1) scLaw.nd rfl (Or.inl rfl) (pe_cal c_law_urn (hr.mono (by decide)) rfl (pa_cons (pv 0) pa_nil)))
    (pss_cons (ps_for PassesOwn.never rfl (pi_range1 rfl T.range (pa_cons pe_int pa_nil)) (pg_name (i := 2) scLaw.nd rfl (Or.inl rfl)) (pss_cons (ps_set (i := 3) scLaw.nd rfl (Or.inl rfl) (pe_cal c_law_rule (hr.mono (by decide)) rfl (pa_cons (pv 1) pa_nil)))
      (pss_cons (ps_set (i := 4) scLaw.nd rfl (Or.inl rfl) (pe_cal c_law_row (hr.mono (by decide)) rfl (pa_cons (pv 1) (pa_cons (pv 3) (pa_cons (pe_ix (kx_list (K := K) rfl) (pe_lst (pa_cons pe_int (pa_cons pe_int (pa_cons pe_int (pa_cons pe_int pa_nil))))) (pe_op op_modN (pv 2) pe_int) (fun _ _ => rfl)) pa_nil)))))
      (pss_cons (ps_set (i := 5) scLaw.nd rfl (Or.inl rfl) (pe_ix (kx_list (K := K) rfl) (pe_cal c_law_played (hr.mono (by decide)) rfl (pa_cons (pv 3) (pa_cons (pv 4) (pa_cons (pe_cal c_law_word (hr.mono (by decide)) rfl (pa_cons (pv 1) (pa_cons (pe_callB (k_len (K := K) rfl) rfl T.len bt_len (pa_cons (pv 4) pa_nil)) pa_nil))) pa_nil)))) pe_int (fun _ _ => rfl)))
      (pss_one (ps_for PassesOwn.never rfl (ki_list (K := K) rfl (pe_lst (pa_cons (pv 5) (pa_cons (pe_cal c_law_swapped (hr.mono (by decide)) rfl (pa_cons (pv 1) (pa_cons (pv 5) pa_nil))) (pa_cons (pe_cal c_law_mixed (hr.mono (by decide)) rfl (pa_cons (pv 1) (pa_cons (pv 5) pa_nil))) pa_nil))))) (pg_name (i := 6) scLaw.nd rfl (Or.inl rfl)) (pss_cons (ps_set (i := 7) scLaw.nd rfl (Or.inl rfl) (pe_callTy (k_tuple_of (K := K) rfl) rfl T.tuple bt_tuple (pa_cons (pe_lc (own := [("_law_here", 9)]) (g := gName 9)  (by rfl) scLaw.nd (ki_list (K := K) rfl (pe_cal c_law_rivals (hr.mono (by decide)) rfl (pa_cons (pv 3) (pa_cons (pv 4) (pa_cons (pv 6) pa_nil))))) (blkOk_by (own := [("_law_here", 9)]) (N := nLaw) (sc := defScope sLaw) (by decide +kernel)) (fun _ _ _ _ _ => (pg_name (i := 9) scLaw.nd rfl (Or.inl rfl))) (fun _ _ _ _ _ => pts_nil) (fun _ _ _ _ _ => (pe_callTy (k_tuple_of (K := K) rfl) rfl T.tuple bt_tuple (pa_cons (pv 9) pa_nil)))) pa_nil)))
        (pss_cons (ps_set (i := 8) scLaw.nd rfl (Or.inl rfl) (pe_callB (call_reprS hg hr.units hs) rfl T.repr bt_repr (pa_cons (pe_lst (pa_cons (pv 3) (pa_cons (pv 4) (pa_cons (pv 6) pa_nil)))) pa_nil)))
        (pss_cons (ps_if (pt_cmpR op_ne (pe_callB (call_reprS hg hr.units hs) rfl T.repr bt_repr (pa_cons (pe_lst (pa_cons (pe_cal crivals (hr.mono (by decide)) rfl (pa_cons (pv 3) (pa_cons (pv 4) (pa_cons (pv 6) pa_nil)))) (pa_cons (pe_cal crivals (hr.mono (by decide)) rfl (pa_cons (pv 3) (pa_cons (pv 4) (pa_cons (pv 6) pa_nil)))) pa_nil))) pa_nil)) (pe_callB (call_reprS hg hr.units hs) rfl T.repr bt_repr (pa_cons (pe_lst (pa_cons (pv 7) (pa_cons (pv 7) pa_nil))) pa_nil)) (nomark _)) (pss_one (ps_ret pe_bl)) pss_nil)
        (pss_one (ps_if (pt_cmpR op_ne (pe_callB (call_reprS hg hr.units hs) rfl T.repr bt_repr (pa_cons (pe_lst (pa_cons (pv 3) (pa_cons (pv 4) (pa_cons (pv 6) pa_nil)))) pa_nil)) (pv 8) (nomark _)) (pss_one (ps_ret pe_bl)) pss_nil)))))))))))
    (pss_one (ps_ret pe_bl)))), ?_⟩
  have z2 : 2 ≤ sizeLine := by decide
  have z3 : 3 ≤ sizeLine := by decide
  have z4 : 4 ≤ sizeLine := by decide
  have nz4 : (4 : Int) ≠ 0 := by decide
  refine ⟨_, rfl, a, ns, rfl, hS, hlen, fun c l H0' e0 C => ?_⟩
  refine ⟨8, rfl, by decide, by decide, for_range (fun i σ H' => (∃ x2 x3 x4 x5 x6 x7 x8 x9 : Option V, σ = [some (.ref a), some (.ref c), x2, x3, x4, x5, x6, x7, x8, x9]) ∧ UrnAt P w H' c l (i * 1000)) ⟨⟨_, _, _, _, _, _, _, _, rfl⟩, by simpa using C⟩ ?turn ?after⟩
  case after =>
    rintro σ H1 ⟨⟨x2, x3, x4, x5, x6, x7, x8, x9, rfl⟩, C1⟩
    exact kQ H1
  case turn =>
  rintro i σ H1 hi ⟨⟨x2, x3, x4, x5, x6, x7, x8, x9, rfl⟩, C1⟩
  have hi8 : i < 8 := by simpa using hi
  -- rule, row
  refine ⟨_, rfl, c, l, _, rfl, C1, by omega, fun rv n ps H2 e2 hn hR => ?_⟩
  refine ⟨_, rfl, _, rfl, z4, fun l1 hl1 => ?_⟩
  obtain ⟨u, hu, hu4⟩ := pick4 (i := i) (a := 40) (b := 12) (c := 5) (d := 8)
  have E2 := e2.new hl1 (o := .lst [.int 40, .int 12, .int 5, .int 8])
  have R2 := hR.ex (Evl.Ex.new hl1 (o := .lst [.int 40, .int 12, .int 5, .int 8]))
  refine ⟨_, rfl, _, _, rfl, rfl, nz4, l1, _, _, _, rfl, rfl, SqL.of upd_same, hu, c, l, rv, u, n, ps, _, rfl, E2.urn, by omega, R2, by omega, by omega, by omega, fun pr rs H3 e3 hrow hr1 hr2 hin => ?_⟩
  have E3 : Ed P w c l (i * 1000 + 150) H1 H3 := (E2.trans e3).le (by omega)
  have R3 := R2.ed e3
  have hm : rs.length ≤ 40 := by omega
  have lrs : ((rs.map V.int).length : Int) = ((rs.length : Nat) : Int) := by rw [List.length_map]
  clear e2 e3 E2 hR hl1 R2
  -- order
  refine ⟨_, rfl, _, rfl, _, rfl, _, rfl, pr, _, rfl, .inr (SqT.of hrow), ?_⟩
  refine tn ?_
  rw [lrs]
  refine ⟨c, l, rs.length, _, rfl, E3.urn, by omega, by omega, fun bs H4 e4 hbs => ?_⟩
  have E4 : Ed P w c l (i * 1000 + 300) H1 H4 := (E3.trans e4).le (by omega)
  refine ⟨rv, pr, n, ps, rs, bs, rfl, R3.ed e4, by omega, .inl (e4.tu hrow), hin, by omega, hbs, fun po q v os H5 e5 hpo hq hos => ?_⟩
  have R5 := (R3.ed e4).ex e5
  refine ⟨po, _, _, _, rfl, rfl, SqL.of hpo, rfl, ?_⟩
  have E5 := E4.ex e5
  have hrow5 := e5 _ _ (e4.tu hrow)
  clear E3 E4 e4 e5 hpo R3 hrow
  have hn6 := hn
  have los : os.length = rs.length := by rw [hos.length_eq, upto_len]
  -- the values
  refine ⟨_, rfl, _, rfl, _, rfl, c, l, q, os, _, rfl, E5.urn, by omega, hq.tu, by omega, by omega, fun q2 ms2 H6 e6 h6 p6 => ?_⟩
  have E6 := E5.trans e6
  refine ⟨_, rfl, _, rfl, c, l, q, os, _, rfl, E6.urn, by omega, .inr (hq.ed e6).sq, by omega, fun q3 ms3 H7 e7 h7 p7 => ⟨z3, fun l8 hl8 => ?_⟩⟩
  have E7 := (E6.trans e7).new hl8 (o := .lst [.ref q, .ref q2, .ref q3])
  have X8 := Evl.Ex.new hl8 (o := .lst [.ref q, .ref q2, .ref q3])
  have al8 : upd H7 l8 (.lst [.ref q, .ref q2, .ref q3]) l8 = some (.lst [.ref q, .ref q2, .ref q3]) := upd_same
  have hrow8 := X8 _ _ (e7.tu (e6.tu hrow5))
  have R8 := ((R5.ed e6).ed e7).ex X8
  have I8 : ∀ y ∈ [V.ref q, .ref q2, .ref q3], ∃ (qa : Addr) (ms : List Int), y = .ref qa ∧ Ti (upd H7 l8 (.lst [.ref q, .ref q2, .ref q3])) qa (ms.map V.int) ∧ ms.Perm (upto rs.length) := fun y hy => by
    simp only [List.mem_cons, List.not_mem_nil, or_false] at hy
    rcases hy with rfl | rfl | rfl
    · exact ⟨q, os, rfl, ((hq.ed e6).ed e7).ex X8, hos⟩
    · exact ⟨q2, ms2, rfl, (h6.ed e7).ex X8, p6.trans hos⟩
    · exact ⟨q3, ms3, rfl, h7.ex X8, p7.trans hos⟩
  generalize [V.ref q, .ref q2, .ref q3] = L8 at E7 al8 I8 hrow8 R8 ⊢
  generalize upd H7 l8 (.lst L8) = G8 at E7 al8 I8 hrow8 R8 ⊢
  clear X8 hl8 E6 e6 e7 h6 h7
  refine ⟨l8, rfl, ⟨_, SqL.of al8⟩, ?_⟩
  refine for_list (K := K) (a := l8) (xs := L8) (fun j σ H' => (∃ w6 w7 w8 w9 : Option V, σ = [some (.ref a), some (.ref c), some (.int (0 + (i : Int))), some rv, some (.ref pr), some (.ref q), w6, w7, w8, w9]) ∧ Ex G8 H')
    ⟨⟨_, _, _, _, rfl⟩, Evl.Ex.refl _⟩ (fun j σ H' _ h => SqL.of (h.2 _ _ al8)) ?turn ?after
  case after =>
    rintro σ H' ⟨⟨w6, w7, w8, w9, rfl⟩, e⟩
    exact ⟨⟨_, _, _, _, _, _, _, _, rfl⟩, (E7.urn.ex e).le (by omega)⟩
  case turn =>
    rintro j v σ J hv ⟨⟨w6, w7, w8, w9, rfl⟩, eJ⟩
    obtain ⟨qa, ms, rfl, hqa0, hms⟩ := I8 v (List.mem_of_getElem? hv)
    have hqa := hqa0.ex eJ
    have hrJ := eJ _ _ hrow8
    have lms : ms.length = rs.length := by rw [hms.length_eq, upto_len]
    have dr : ∀ {G : Hp}, Ex J G → Dv G (.ref pr) (.tuple (rs.map .int)) := fun e => ints_d (.inl (e _ _ hrJ))
    have dq : ∀ {G : Hp}, Ex J G → Dv G (.ref qa) (.tuple (ms.map .int)) := fun e => ints_d (hqa.ex e).tu
    have rsh : Sh 100000 6 (.tuple (rs.map .int)) := (ints_s (fun x hx => by have := hin x hx; omega) (by omega)).mono (by decide) (by decide)
    have msh : Sh 100000 6 (.tuple (ms.map .int)) := (ints_s (fun x hx => by have := mem_upto.mp (hms.mem_iff.mp hx); omega) (by omega)).mono (by decide) (by decide)
    have RJ := R8.ex eJ
    have dsh : Sh 100000 6 (rivD ps rs ms) := riv_s (fun x hx => by have := mem_upto.mp (hms.mem_iff.mp hx); omega) (by omega)
    have ssh := rule_s RJ.1 hn6
    have hfit := three_fit ssh rsh msh
    have dfit := two_fit dsh dsh
    -- due = tuple([tuple(here) for here in rivals(..)])
    refine ⟨_, rfl, _, rfl, _, rfl, rv, pr, qa, n, ps, rs, ms, rfl, RJ, by omega, hrJ, hin, hqa.tu, hms, by omega, fun lp as K1 g1 hlp las hit => ?_⟩
    refine ⟨lp, rfl, ⟨_, SqL.of hlp⟩, fun D hD => made_list (fun i v G => ∃ a, v = .ref a ∧ G a = some (.tup ((rivK ps rs ms i).map V.int))) hD (SqL.of hlp) (by rw [List.length_map]; omega) (fun i v G G' _ _ e ⟨a, q1, q2⟩ => ⟨a, q1, e _ _ tup_nolst q2⟩) (fun _ => rfl) (fun i2 x hx2 G e5 Q1 q1 => ?_) (fun ys K2 hy g2 hD2 hm2 => ?_)⟩
    · rw [List.getElem?_map] at hx2
      cases ha : as[i2]? with
      | none => rw [ha] at hx2; cases hx2
      | some aa =>
        rw [ha] at hx2
        cases hx2
        exact ⟨_, rfl, aa, _, rfl, .inl ⟨SqL.of (e5 _ _ (hit i2 aa ha)), fun t ht => q1 _ _ (Evl.Ex.new ht) ⟨t, rfl, upd_same⟩⟩⟩
    rw [List.length_map, las] at hy
    refine ⟨D, _, rfl, .inl ⟨SqL.of hD2, fun du hdu => ?_⟩⟩
    have G2 := (g1.trans g2).trans (Evl.Ex.new hdu (o := .tup ys))
    have ddu : Dv (upd K2 du (.tup ys)) (.ref du) (rivD ps rs ms) := riv_dv upd_same hy fun i3 v3 hv3 => by
      obtain ⟨a3, q1, q2⟩ := hm2 i3 v3 hv3
      exact ⟨a3, q1, Evl.Ex.new hdu _ _ q2⟩
    generalize upd K2 du (.tup ys) = K3 at G2 ddu ⊢
    -- shown = repr([rule, row, value])
    refine ⟨_, rfl, _, rfl, _, rfl, z3, fun q1 hq1 => ⟨.ref q1, .list [ruleD ps, .tuple (rs.map .int), .tuple (ms.map .int)], rfl, .lst upd_same (.cons (RJ.dv.mono (G2.trans (Evl.Ex.new hq1))) (.cons (dr (G2.trans (Evl.Ex.new hq1))) (.cons (dq (G2.trans (Evl.Ex.new hq1))) .nil))), hfit, ?_⟩⟩
    have G4 := G2.trans (Evl.Ex.new hq1 (o := .lst [rv, .ref pr, .ref qa]))
    have ddu4 := ddu.mono (Evl.Ex.new hq1 (o := .lst [rv, .ref pr, .ref qa]))
    generalize upd K3 q1 (.lst [rv, .ref pr, .ref qa]) = K4 at G4 ddu4 ⊢
    -- repr([rivals, rivals]) != repr([due, due])
    refine ⟨_, rfl, _, rfl, _, rfl, rv, pr, qa, n, ps, rs, ms, rfl, RJ.ex G4, by omega, G4 _ _ hrJ, hin, (hqa.ex G4).tu, hms, by omega, fun f1 y1 K5 g5 hf1 l1 m1 => ?_⟩
    have G5 := G4.trans g5
    refine ⟨_, rfl, _, rfl, _, rfl, rv, pr, qa, n, ps, rs, ms, rfl, RJ.ex G5, by omega, G5 _ _ hrJ, hin, (hqa.ex G5).tu, hms, by omega, fun f2 y2 K6 g6 hf2 l2 m2 => ⟨z2, fun lf hlf => ?_⟩⟩
    have g7 := Evl.Ex.new hlf (o := .lst [.ref f1, .ref f2])
    have d1 : Dv K5 (.ref f1) (rivD ps rs ms) := riv_dv hf1 l1 m1
    have d2 : Dv K6 (.ref f2) (rivD ps rs ms) := riv_dv hf2 l2 m2
    refine ⟨.ref lf, .list [rivD ps rs ms, rivD ps rs ms], rfl, .lst upd_same (.cons ((d1.mono g6).mono g7) (.cons (d2.mono g7) .nil)), dfit, ?_⟩
    have G7 := (G5.trans g6).trans g7
    have ddu7 := ((ddu4.mono g5).mono g6).mono g7
    generalize upd K6 lf (.lst [.ref f1, .ref f2]) = K7 at G7 ddu7 ⊢
    refine ⟨_, rfl, _, rfl, z2, fun ld hld => ⟨.ref ld, .list [rivD ps rs ms, rivD ps rs ms], rfl, .lst upd_same (.cons (ddu7.mono (Evl.Ex.new hld)) (.cons (ddu7.mono (Evl.Ex.new hld)) .nil)), dfit, rfl, _, rfl, ?_⟩⟩
    refine iteNS rfl ?_
    have G8' := G7.trans (Evl.Ex.new hld (o := .lst [.ref du, .ref du]))
    -- repr([rule, row, value]) != shown
    refine ⟨_, rfl, _, rfl, _, rfl, z3, fun q9 hq9 => ⟨.ref q9, .list [ruleD ps, .tuple (rs.map .int), .tuple (ms.map .int)], rfl, .lst upd_same (.cons (RJ.dv.mono (G8'.trans (Evl.Ex.new hq9))) (.cons (dr (G8'.trans (Evl.Ex.new hq9))) (.cons (dq (G8'.trans (Evl.Ex.new hq9))) .nil))), hfit, _, rfl, rfl, _, rfl, ?_⟩⟩
    refine iteNS rfl ?_
    exact ⟨⟨_, _, _, _, rfl⟩, (eJ.trans G8').trans (Evl.Ex.new hq9)⟩
end
end Lr

namespace Lr
open PySem L2
theorem all_mk {l : PySem.W.OpenLaw} {w : World} {K : PySem.W.Frag} {h : Heap} {mg : Str → Option Value} {fa f1 f2 f3 f4 f5 f6 f7 f8 f9 f10 f11 f12 f13 f14 f15 f16 f17 f18 f19 f20 f21 f22 f23 f24 f25 : Addr} (X : K.In h) (G : h.Ns mainGlobals mg) (hfa : mg "law" = some (.ref fa))
    {od1 od2 od3 od4 od5 od6 od7 od8 od9 od10 od11 od12 od13 od14 od15 od16 od17 od18 od19 od20 od21 od22 od23 od24 od25 an1 an2 an3 an4 an5 an6 an7 an8 an9 an10 an11 an12 an13 an14 an15 an16 an17 an18 an19 an20 an21 an22 an23 an24 an25 : Option Addr}
    {sl1 sl2 sl3 sl4 sl5 sl6 sl7 sl8 sl9 sl10 sl11 sl12 sl13 sl14 sl15 sl16 sl17 sl18 sl19 sl20 sl21 sl22 sl23 sl24 sl25 : Array (Option Value)}
    {oc1 kV1 dc1 pm1 cd1 ct1 oc2 kV2 dc2 pm2 cd2 ct2 oc3 kV3 dc3 pm3 cd3 ct3 oc4 kV4 dc4 pm4 cd4 ct4 oc5 kV5 dc5 pm5 cd5 ct5 oc6 kV6 dc6 pm6 cd6 ct6 oc7 kV7 dc7 pm7 cd7 ct7 oc8 kV8 dc8 pm8 cd8 ct8 oc9 kV9 dc9 pm9 cd9 ct9 oc10 kV10 dc10 pm10 cd10 ct10 oc11 kV11 dc11 pm11 cd11 ct11 oc12 kV12 dc12 pm12 cd12 ct12 oc13 kV13 dc13 pm13 cd13 ct13 oc14 kV14 dc14 pm14 cd14 ct14 oc15 kV15 dc15 pm15 cd15 ct15 oc16 kV16 dc16 pm16 cd16 ct16 oc17 kV17 dc17 pm17 cd17 ct17 oc18 kV18 dc18 pm18 cd18 ct18 oc19 kV19 dc19 pm19 cd19 ct19 oc20 kV20 dc20 pm20 cd20 ct20 oc21 kV21 dc21 pm21 cd21 ct21 oc22 kV22 dc22 pm22 cd22 ct22 oc23 kV23 dc23 pm23 cd23 ct23 oc24 kV24 dc24 pm24 cd24 ct24 oc25 kV25 dc25 pm25 cd25 ct25 : Value}
    (a1 : PySem.W.nsIn K mainGlobals "is_number" = some (some (.ref f1)))
    (l1 : K.lookup f1 = some ⟨oc1, od1, .func (PySem.W.fnOf "is_number" "is_number" (defArgs sIsNum) (defBody sIsNum) (defScope sIsNum) .none kV1 dc1 pm1 an1 cd1 ct1), sl1⟩)
    (c1 : PySem.W.codeIn K cd1 "is_number" = true)
    (k1 : PySem.W.keepIn K (.ref f1) = true)
    (a2 : PySem.W.nsIn K mainGlobals "is_within" = some (some (.ref f2)))
    (l2 : K.lookup f2 = some ⟨oc2, od2, .func (PySem.W.fnOf "is_within" "is_within" (defArgs sWithin) (defBody sWithin) (defScope sWithin) .none kV2 dc2 pm2 an2 cd2 ct2), sl2⟩)
    (c2 : PySem.W.codeIn K cd2 "is_within" = true)
    (k2 : PySem.W.keepIn K (.ref f2) = true)
    (a3 : PySem.W.nsIn K mainGlobals "is_arrangement" = some (some (.ref f3)))
    (l3 : K.lookup f3 = some ⟨oc3, od3, .func (PySem.W.fnOf "is_arrangement" "is_arrangement" (defArgs sArr) (defBody sArr) (defScope sArr) .none kV3 dc3 pm3 an3 cd3 ct3), sl3⟩)
    (c3 : PySem.W.codeIn K cd3 "is_arrangement" = true)
    (k3 : PySem.W.keepIn K (.ref f3) = true)
    (a4 : PySem.W.nsIn K mainGlobals "is_lane" = some (some (.ref f4)))
    (l4 : K.lookup f4 = some ⟨oc4, od4, .func (PySem.W.fnOf "is_lane" "is_lane" (defArgs sIsLane) (defBody sIsLane) (defScope sIsLane) .none kV4 dc4 pm4 an4 cd4 ct4), sl4⟩)
    (c4 : PySem.W.codeIn K cd4 "is_lane" = true)
    (k4 : PySem.W.keepIn K (.ref f4) = true)
    (a5 : PySem.W.nsIn K mainGlobals "check_lane" = some (some (.ref f5)))
    (l5 : K.lookup f5 = some ⟨oc5, od5, .func (PySem.W.fnOf "check_lane" "check_lane" (defArgs sCheckL) (defBody sCheckL) (defScope sCheckL) .none kV5 dc5 pm5 an5 cd5 ct5), sl5⟩)
    (c5 : PySem.W.codeIn K cd5 "check_lane" = true)
    (k5 : PySem.W.keepIn K (.ref f5) = true)
    (a6 : PySem.W.nsIn K mainGlobals "preference_after" = some (some (.ref f6)))
    (l6 : K.lookup f6 = some ⟨oc6, od6, .func (PySem.W.fnOf "preference_after" "preference_after" (defArgs sPrefA) (defBody sPrefA) (defScope sPrefA) .none kV6 dc6 pm6 an6 cd6 ct6), sl6⟩)
    (c6 : PySem.W.codeIn K cd6 "preference_after" = true)
    (k6 : PySem.W.keepIn K (.ref f6) = true)
    (a7 : PySem.W.nsIn K mainGlobals "foremost" = some (some (.ref f7)))
    (l7 : K.lookup f7 = some ⟨oc7, od7, .func (PySem.W.fnOf "foremost" "foremost" (defArgs sFore) (defBody sFore) (defScope sFore) .none kV7 dc7 pm7 an7 cd7 ct7), sl7⟩)
    (c7 : PySem.W.codeIn K cd7 "foremost" = true)
    (k7 : PySem.W.keepIn K (.ref f7) = true)
    (a8 : PySem.W.nsIn K mainGlobals "goes_before" = some (some (.ref f8)))
    (l8 : K.lookup f8 = some ⟨oc8, od8, .func (PySem.W.fnOf "goes_before" "goes_before" (defArgs sGoes) (defBody sGoes) (defScope sGoes) .none kV8 dc8 pm8 an8 cd8 ct8), sl8⟩)
    (c8 : PySem.W.codeIn K cd8 "goes_before" = true)
    (k8 : PySem.W.keepIn K (.ref f8) = true)
    (a9 : PySem.W.nsIn K mainGlobals "is_order" = some (some (.ref f9)))
    (l9 : K.lookup f9 = some ⟨oc9, od9, .func (PySem.W.fnOf "is_order" "is_order" (defArgs sOrder) (defBody sOrder) (defScope sOrder) .none kV9 dc9 pm9 an9 cd9 ct9), sl9⟩)
    (c9 : PySem.W.codeIn K cd9 "is_order" = true)
    (k9 : PySem.W.keepIn K (.ref f9) = true)
    (a10 : PySem.W.nsIn K mainGlobals "check_order" = some (some (.ref f10)))
    (l10 : K.lookup f10 = some ⟨oc10, od10, .func (PySem.W.fnOf "check_order" "check_order" (defArgs sCheck) (defBody sCheck) (defScope sCheck) .none kV10 dc10 pm10 an10 cd10 ct10), sl10⟩)
    (c10 : PySem.W.codeIn K cd10 "check_order" = true)
    (k10 : PySem.W.keepIn K (.ref f10) = true)
    (a11 : PySem.W.nsIn K mainGlobals "first_cars" = some (some (.ref f11)))
    (l11 : K.lookup f11 = some ⟨oc11, od11, .func (PySem.W.fnOf "first_cars" "first_cars" (defArgs sFirstC) (defBody sFirstC) (defScope sFirstC) .none kV11 dc11 pm11 an11 cd11 ct11), sl11⟩)
    (c11 : PySem.W.codeIn K cd11 "first_cars" = true)
    (k11 : PySem.W.keepIn K (.ref f11) = true)
    (a12 : PySem.W.nsIn K mainGlobals "last_lane" = some (some (.ref f12)))
    (l12 : K.lookup f12 = some ⟨oc12, od12, .func (PySem.W.fnOf "last_lane" "last_lane" (defArgs sLastL) (defBody sLastL) (defScope sLastL) .none kV12 dc12 pm12 an12 cd12 ct12), sl12⟩)
    (c12 : PySem.W.codeIn K cd12 "last_lane" = true)
    (k12 : PySem.W.keepIn K (.ref f12) = true)
    (a13 : PySem.W.nsIn K mainGlobals "rivals_of" = some (some (.ref f13)))
    (l13 : K.lookup f13 = some ⟨oc13, od13, .func (PySem.W.fnOf "rivals_of" "rivals_of" (defArgs sRivOf) (defBody sRivOf) (defScope sRivOf) .none kV13 dc13 pm13 an13 cd13 ct13), sl13⟩)
    (c13 : PySem.W.codeIn K cd13 "rivals_of" = true)
    (k13 : PySem.W.keepIn K (.ref f13) = true)
    (a14 : PySem.W.nsIn K mainGlobals "rivals_at" = some (some (.ref f14)))
    (l14 : K.lookup f14 = some ⟨oc14, od14, .func (PySem.W.fnOf "rivals_at" "rivals_at" (defArgs sRivAt) (defBody sRivAt) (defScope sRivAt) .none kV14 dc14 pm14 an14 cd14 ct14), sl14⟩)
    (c14 : PySem.W.codeIn K cd14 "rivals_at" = true)
    (k14 : PySem.W.keepIn K (.ref f14) = true)
    (a15 : PySem.W.nsIn K mainGlobals "rivals" = some (some (.ref f15)))
    (l15 : K.lookup f15 = some ⟨oc15, od15, .func (PySem.W.fnOf "rivals" "rivals" (defArgs sRiv) (defBody sRiv) (defScope sRiv) .none kV15 dc15 pm15 an15 cd15 ct15), sl15⟩)
    (c15 : PySem.W.codeIn K cd15 "rivals" = true)
    (k15 : PySem.W.keepIn K (.ref f15) = true)
    (a16 : PySem.W.nsIn K mainGlobals "_law_urn" = some (some (.ref f16)))
    (l16 : K.lookup f16 = some ⟨oc16, od16, .func (PySem.W.fnOf "_law_urn" "_law_urn" (defArgs sUrn) (defBody sUrn) (defScope sUrn) .none kV16 dc16 pm16 an16 cd16 ct16), sl16⟩)
    (c16 : PySem.W.codeIn K cd16 "_law_urn" = true)
    (k16 : PySem.W.keepIn K (.ref f16) = true)
    (a17 : PySem.W.nsIn K mainGlobals "_law_pull" = some (some (.ref f17)))
    (l17 : K.lookup f17 = some ⟨oc17, od17, .func (PySem.W.fnOf "_law_pull" "_law_pull" (defArgs sPull) (defBody sPull) (defScope sPull) .none kV17 dc17 pm17 an17 cd17 ct17), sl17⟩)
    (c17 : PySem.W.codeIn K cd17 "_law_pull" = true)
    (k17 : PySem.W.keepIn K (.ref f17) = true)
    (a18 : PySem.W.nsIn K mainGlobals "_law_mixed" = some (some (.ref f18)))
    (l18 : K.lookup f18 = some ⟨oc18, od18, .func (PySem.W.fnOf "_law_mixed" "_law_mixed" (defArgs sMixed) (defBody sMixed) (defScope sMixed) .none kV18 dc18 pm18 an18 cd18 ct18), sl18⟩)
    (c18 : PySem.W.codeIn K cd18 "_law_mixed" = true)
    (k18 : PySem.W.keepIn K (.ref f18) = true)
    (a19 : PySem.W.nsIn K mainGlobals "_law_rule" = some (some (.ref f19)))
    (l19 : K.lookup f19 = some ⟨oc19, od19, .func (PySem.W.fnOf "_law_rule" "_law_rule" (defArgs sRule) (defBody sRule) (defScope sRule) .none kV19 dc19 pm19 an19 cd19 ct19), sl19⟩)
    (c19 : PySem.W.codeIn K cd19 "_law_rule" = true)
    (k19 : PySem.W.keepIn K (.ref f19) = true)
    (a20 : PySem.W.nsIn K mainGlobals "_law_row" = some (some (.ref f20)))
    (l20 : K.lookup f20 = some ⟨oc20, od20, .func (PySem.W.fnOf "_law_row" "_law_row" (defArgs sRow) (defBody sRow) (defScope sRow) .none kV20 dc20 pm20 an20 cd20 ct20), sl20⟩)
    (c20 : PySem.W.codeIn K cd20 "_law_row" = true)
    (k20 : PySem.W.keepIn K (.ref f20) = true)
    (a21 : PySem.W.nsIn K mainGlobals "_law_word" = some (some (.ref f21)))
    (l21 : K.lookup f21 = some ⟨oc21, od21, .func (PySem.W.fnOf "_law_word" "_law_word" (defArgs sWord) (defBody sWord) (defScope sWord) .none kV21 dc21 pm21 an21 cd21 ct21), sl21⟩)
    (c21 : PySem.W.codeIn K cd21 "_law_word" = true)
    (k21 : PySem.W.keepIn K (.ref f21) = true)
    (a22 : PySem.W.nsIn K mainGlobals "_law_played" = some (some (.ref f22)))
    (l22 : K.lookup f22 = some ⟨oc22, od22, .func (PySem.W.fnOf "_law_played" "_law_played" (defArgs sPlayed) (defBody sPlayed) (defScope sPlayed) .none kV22 dc22 pm22 an22 cd22 ct22), sl22⟩)
    (c22 : PySem.W.codeIn K cd22 "_law_played" = true)
    (k22 : PySem.W.keepIn K (.ref f22) = true)
    (a23 : PySem.W.nsIn K mainGlobals "_law_swapped" = some (some (.ref f23)))
    (l23 : K.lookup f23 = some ⟨oc23, od23, .func (PySem.W.fnOf "_law_swapped" "_law_swapped" (defArgs sSwapped) (defBody sSwapped) (defScope sSwapped) .none kV23 dc23 pm23 an23 cd23 ct23), sl23⟩)
    (c23 : PySem.W.codeIn K cd23 "_law_swapped" = true)
    (k23 : PySem.W.keepIn K (.ref f23) = true)
    (a24 : PySem.W.nsIn K mainGlobals "_law_rivals" = some (some (.ref f24)))
    (l24 : K.lookup f24 = some ⟨oc24, od24, .func (PySem.W.fnOf "_law_rivals" "_law_rivals" (defArgs sLRiv) (defBody sLRiv) (defScope sLRiv) .none kV24 dc24 pm24 an24 cd24 ct24), sl24⟩)
    (c24 : PySem.W.codeIn K cd24 "_law_rivals" = true)
    (k24 : PySem.W.keepIn K (.ref f24) = true)
    (a25 : PySem.W.nsIn K mainGlobals "law" = some (some (.ref f25)))
    (l25 : K.lookup f25 = some ⟨oc25, od25, .func (PySem.W.fnOf "law" "law" (defArgs sLaw) (defBody sLaw) (defScope sLaw) .none kV25 dc25 pm25 an25 cd25 ct25), sl25⟩)
    (c25 : PySem.W.codeIn K cd25 "law" = true)
    (k25 : PySem.W.keepIn K (.ref f25) = true)
    (zlen : PySem.W.nsIn K mainGlobals "len" = some none)
    (zrange : PySem.W.nsIn K mainGlobals "range" = some none)
    (ztuple : PySem.W.nsIn K mainGlobals "tuple" = some none)
    (zlist : PySem.W.nsIn K mainGlobals "list" = some none)
    (zabs : PySem.W.nsIn K mainGlobals "abs" = some none)
    (zint : PySem.W.nsIn K mainGlobals "int" = some none)
    (zstr : PySem.W.nsIn K mainGlobals "str" = some none)
    (zbool : PySem.W.nsIn K mainGlobals "bool" = some none)
    (zrepr : PySem.W.nsIn K mainGlobals "repr" = some none)
    (zisinstance : PySem.W.nsIn K mainGlobals "isinstance" = some none)
    (zenumerate : PySem.W.nsIn K mainGlobals "enumerate" = some none)
    (zsorted : PySem.W.nsIn K mainGlobals "sorted" = some none)
    (zset : PySem.W.nsIn K mainGlobals "set" = some none)
    (zall : PySem.W.nsIn K mainGlobals "all" = some none)
    (zmin : PySem.W.nsIn K mainGlobals "min" = some none)
    (zmax : PySem.W.nsIn K mainGlobals "max" = some none)
    (zany : PySem.W.nsIn K mainGlobals "any" = some none)
    (zzip : PySem.W.nsIn K mainGlobals "zip" = some none)
    (zsum : PySem.W.nsIn K mainGlobals "sum" = some none)
    (zreversed : PySem.W.nsIn K mainGlobals "reversed" = some none) :
    ∃ fd : FuncData, (∀ (s : Shared) (v : Value), BindsTo s fd ⟨[v], []⟩ [("_law_script", v)]) ∧ ∀ base : Heap, K.In base → base.Ns mainGlobals mg → HasSys base → FnG l.prog w K mg base 10 fa fd ["_law_script"] (spLaw K) := by
  have e := hfa.symm.trans (PySem.W.mg_of X G a25)
  cases e
  have T : Blt mg := ⟨PySem.W.mg_none_of X G zlen, PySem.W.mg_none_of X G zrange, PySem.W.mg_none_of X G ztuple, PySem.W.mg_none_of X G zlist, PySem.W.mg_none_of X G zabs, PySem.W.mg_none_of X G zint, PySem.W.mg_none_of X G zstr, PySem.W.mg_none_of X G zbool, PySem.W.mg_none_of X G zrepr, PySem.W.mg_none_of X G zisinstance, PySem.W.mg_none_of X G zenumerate, PySem.W.mg_none_of X G zsorted, PySem.W.mg_none_of X G zset, PySem.W.mg_none_of X G zall, PySem.W.mg_none_of X G zmin, PySem.W.mg_none_of X G zmax, PySem.W.mg_none_of X G zany, PySem.W.mg_none_of X G zzip, PySem.W.mg_none_of X G zsum, PySem.W.mg_none_of X G zreversed⟩
  have F1 := fun_mk (st := sIsNum) l1 c1 k1
  have b1 := F1.binds (ps := ["value"]) fun _ _ _ _ _ _ us hl => match us, hl with | [_], _ => rfl
  have F2 := fun_mk (st := sWithin) l2 c2 k2
  have b2 := F2.binds (ps := ["value", "low", "high"]) fun _ _ _ _ _ _ us hl => match us, hl with | [_, _, _], _ => rfl
  have F3 := fun_mk (st := sArr) l3 c3 k3
  have b3 := F3.binds (ps := ["value", "count"]) fun _ _ _ _ _ _ us hl => match us, hl with | [_, _], _ => rfl
  have F4 := fun_mk (st := sIsLane) l4 c4 k4
  have b4 := F4.binds (ps := ["rule", "value"]) fun _ _ _ _ _ _ us hl => match us, hl with | [_, _], _ => rfl
  have F5 := fun_mk (st := sCheckL) l5 c5 k5
  have b5 := F5.binds (ps := ["rule", "value"]) fun _ _ _ _ _ _ us hl => match us, hl with | [_, _], _ => rfl
  have F6 := fun_mk (st := sPrefA) l6 c6 k6
  have b6 := F6.binds (ps := ["rule", "last"]) fun _ _ _ _ _ _ us hl => match us, hl with | [_, _], _ => rfl
  have F7 := fun_mk (st := sFore) l7 c7 k7
  have b7 := F7.binds (ps := ["preference", "lanes"]) fun _ _ _ _ _ _ us hl => match us, hl with | [_, _], _ => rfl
  have F8 := fun_mk (st := sGoes) l8 c8 k8
  have b8 := F8.binds (ps := ["rule", "last", "one", "other"]) fun _ _ _ _ _ _ us hl => match us, hl with | [_, _, _, _], _ => rfl
  have F9 := fun_mk (st := sOrder) l9 c9 k9
  have b9 := F9.binds (ps := ["row", "value"]) fun _ _ _ _ _ _ us hl => match us, hl with | [_, _], _ => rfl
  have F10 := fun_mk (st := sCheck) l10 c10 k10
  have b10 := F10.binds (ps := ["row", "order"]) fun _ _ _ _ _ _ us hl => match us, hl with | [_, _], _ => rfl
  have F11 := fun_mk (st := sFirstC) l11 c11 k11
  have b11 := F11.binds (ps := ["row", "cars"]) fun _ _ _ _ _ _ us hl => match us, hl with | [_, _], _ => rfl
  have F12 := fun_mk (st := sLastL) l12 c12 k12
  have b12 := F12.binds (ps := ["row", "passed"]) fun _ _ _ _ _ _ us hl => match us, hl with | [_, _], _ => rfl
  have F13 := fun_mk (st := sRivOf) l13 c13 k13
  have b13 := F13.binds (ps := ["rule", "row", "passed", "firsts", "car"]) fun _ _ _ _ _ _ us hl => match us, hl with | [_, _, _, _, _], _ => rfl
  have F14 := fun_mk (st := sRivAt) l14 c14 k14
  have b14 := F14.binds (ps := ["rule", "row", "order", "place"]) fun _ _ _ _ _ _ us hl => match us, hl with | [_, _, _, _], _ => rfl
  have F15 := fun_mk (st := sRiv) l15 c15 k15
  have b15 := F15.binds (ps := ["rule", "row", "order"]) fun _ _ _ _ _ _ us hl => match us, hl with | [_, _, _], _ => rfl
  have F16 := fun_mk (st := sUrn) l16 c16 k16
  have b16 := F16.binds (ps := ["_law_script"]) fun _ _ _ _ _ _ us hl => match us, hl with | [_], _ => rfl
  have F17 := fun_mk (st := sPull) l17 c17 k17
  have b17 := F17.binds (ps := ["_law_urn_here", "_law_many"]) fun _ _ _ _ _ _ us hl => match us, hl with | [_, _], _ => rfl
  have F18 := fun_mk (st := sMixed) l18 c18 k18
  have b18 := F18.binds (ps := ["_law_urn_here", "_law_items"]) fun _ _ _ _ _ _ us hl => match us, hl with | [_, _], _ => rfl
  have F19 := fun_mk (st := sRule) l19 c19 k19
  have b19 := F19.binds (ps := ["_law_urn_here"]) fun _ _ _ _ _ _ us hl => match us, hl with | [_], _ => rfl
  have F20 := fun_mk (st := sRow) l20 c20 k20
  have b20 := F20.binds (ps := ["_law_urn_here", "_law_rule_here", "_law_cars"]) fun _ _ _ _ _ _ us hl => match us, hl with | [_, _, _], _ => rfl
  have F21 := fun_mk (st := sWord) l21 c21 k21
  have b21 := F21.binds (ps := ["_law_urn_here", "_law_many"]) fun _ _ _ _ _ _ us hl => match us, hl with | [_, _], _ => rfl
  have F22 := fun_mk (st := sPlayed) l22 c22 k22
  have b22 := F22.binds (ps := ["_law_rule_here", "_law_row_here", "_law_word_here"]) fun _ _ _ _ _ _ us hl => match us, hl with | [_, _, _], _ => rfl
  have F23 := fun_mk (st := sSwapped) l23 c23 k23
  have b23 := F23.binds (ps := ["_law_urn_here", "_law_order"]) fun _ _ _ _ _ _ us hl => match us, hl with | [_, _], _ => rfl
  have F24 := fun_mk (st := sLRiv) l24 c24 k24
  have b24 := F24.binds (ps := ["_law_rule_here", "_law_row_here", "_law_order"]) fun _ _ _ _ _ _ us hl => match us, hl with | [_, _, _], _ => rfl
  have F25 := fun_mk (st := sLaw) l25 c25 k25
  refine ⟨PySem.W.fnOf "law" "law" (defArgs sLaw) (defBody sLaw) (defScope sLaw) .none kV25 dc25 pm25 an25 cd25 ct25, fun s v => .of_eq rfl, fun base _ _ hs => ?_⟩
  have h__law_pull : Cal l.prog w K mg base 1 "_law_pull" ["_law_urn_here", "_law_many"] (spPull l.prog w) := ⟨f17, _, ok_pull F17 T, PySem.W.mg_of X G a17, k17, b17⟩
  have h__law_urn : Cal l.prog w K mg base 1 "_law_urn" ["_law_script"] (spUrn l.prog w K) := ⟨f16, _, ok_urn F16 T, PySem.W.mg_of X G a16, k16, b16⟩
  have h__law_mixed : Cal l.prog w K mg base 2 "_law_mixed" ["_law_urn_here", "_law_items"] (spMixed l.prog w K) := ⟨f18, _, ok_mixed F18 T h__law_pull, PySem.W.mg_of X G a18, k18, b18⟩
  have h__law_rule : Cal l.prog w K mg base 3 "_law_rule" ["_law_urn_here"] (spRule l.prog w) := ⟨f19, _, ok_rule F19 T h__law_pull h__law_mixed, PySem.W.mg_of X G a19, k19, b19⟩
  have h__law_row : Cal l.prog w K mg base 2 "_law_row" ["_law_urn_here", "_law_rule_here", "_law_cars"] (spRow l.prog w) := ⟨f20, _, ok_row F20 T h__law_pull, PySem.W.mg_of X G a20, k20, b20⟩
  have h__law_word : Cal l.prog w K mg base 2 "_law_word" ["_law_urn_here", "_law_many"] (spWord l.prog w) := ⟨f21, _, ok_word F21 T h__law_pull, PySem.W.mg_of X G a21, k21, b21⟩
  have h__law_played : Cal l.prog w K mg base 1 "_law_played" ["_law_rule_here", "_law_row_here", "_law_word_here"] spPlayed := ⟨f22, _, ok_played F22 T, PySem.W.mg_of X G a22, k22, b22⟩
  have h__law_swapped : Cal l.prog w K mg base 2 "_law_swapped" ["_law_urn_here", "_law_order"] (spSwapped l.prog w) := ⟨f23, _, ok_swapped F23 T h__law_pull, PySem.W.mg_of X G a23, k23, b23⟩
  have h_is_number : Cal l.prog w K mg base 1 "is_number" ["value"] spNum := ⟨f1, _, ok_num F1 T, PySem.W.mg_of X G a1, k1, b1⟩
  have h_is_within : Cal l.prog w K mg base 2 "is_within" ["value", "low", "high"] spWithin := ⟨f2, _, ok_within F2 T h_is_number, PySem.W.mg_of X G a2, k2, b2⟩
  have h_is_arrangement : Cal l.prog w K mg base 3 "is_arrangement" ["value", "count"] spArr := ⟨f3, _, ok_arr F3 T h_is_within, PySem.W.mg_of X G a3, k3, b3⟩
  have h_is_order : Cal l.prog w K mg base 4 "is_order" ["row", "value"] spOrder := ⟨f9, _, ok_order F9 T h_is_arrangement, PySem.W.mg_of X G a9, k9, b9⟩
  have h_check_order : Cal l.prog w K mg base 5 "check_order" ["row", "order"] spCheck := ⟨f10, _, ok_check F10 T h_is_order, PySem.W.mg_of X G a10, k10, b10⟩
  have h_is_lane : Cal l.prog w K mg base 3 "is_lane" ["rule", "value"] spIsLane := ⟨f4, _, ok_is_lane F4 T h_is_within, PySem.W.mg_of X G a4, k4, b4⟩
  have h_check_lane : Cal l.prog w K mg base 4 "check_lane" ["rule", "value"] spCheckL := ⟨f5, _, ok_checkL F5 T h_is_lane, PySem.W.mg_of X G a5, k5, b5⟩
  have h_preference_after : Cal l.prog w K mg base 5 "preference_after" ["rule", "last"] spPrefA := ⟨f6, _, ok_prefA F6 T h_check_lane, PySem.W.mg_of X G a6, k6, b6⟩
  have h_foremost : Cal l.prog w K mg base 1 "foremost" ["preference", "lanes"] spFore := ⟨f7, _, ok_fore F7 T, PySem.W.mg_of X G a7, k7, b7⟩
  have h_goes_before : Cal l.prog w K mg base 6 "goes_before" ["rule", "last", "one", "other"] spGoes := ⟨f8, _, ok_goes F8 T h_preference_after h_foremost, PySem.W.mg_of X G a8, k8, b8⟩
  have h_first_cars : Cal l.prog w K mg base 1 "first_cars" ["row", "cars"] spFirstC := ⟨f11, _, ok_firstC F11 T, PySem.W.mg_of X G a11, k11, b11⟩
  have h_last_lane : Cal l.prog w K mg base 1 "last_lane" ["row", "passed"] spLastL := ⟨f12, _, ok_lastL F12 T, PySem.W.mg_of X G a12, k12, b12⟩
  have h_rivals_of : Cal l.prog w K mg base 7 "rivals_of" ["rule", "row", "passed", "firsts", "car"] spRivOf := ⟨f13, _, ok_rivOf F13 T h_last_lane h_goes_before, PySem.W.mg_of X G a13, k13, b13⟩
  have h_rivals_at : Cal l.prog w K mg base 8 "rivals_at" ["rule", "row", "order", "place"] spRivAt := ⟨f14, _, ok_rivAt F14 T h_first_cars h_rivals_of, PySem.W.mg_of X G a14, k14, b14⟩
  have h_rivals : Cal l.prog w K mg base 9 "rivals" ["rule", "row", "order"] spRiv := ⟨f15, _, ok_riv F15 T h_check_order h_rivals_at, PySem.W.mg_of X G a15, k15, b15⟩
  have h__law_rivals : Cal l.prog w K mg base 1 "_law_rivals" ["_law_rule_here", "_law_row_here", "_law_order"] spLRiv := ⟨f24, _, ok_lriv F24 T, PySem.W.mg_of X G a24, k24, b24⟩
  exact ok_law hs F25 T h__law_urn h__law_rule h__law_row h__law_mixed h__law_word h__law_played h__law_swapped h__law_rivals h_rivals
end Lr
open PySem PySem.W PyProof.Rows
set_option maxRecDepth 100000 in
set_option maxHeartbeats 0 in
theorem PySem.Challenge.cw_lanerules_k13_rivals_at_places_holds : PySem.Challenge.rw_lanerules_k13_rivals_at_places.Holds := by
  w_on; o_law; k_head; (case hw => w_witness2)
  k_fill
  refine Lr.walkS (l := PySem.Challenge.rw_lanerules_k13_rivals_at_places) (n := 63) (k := 10) (x := "_law_script") (sp := fun w => Lr.spLaw _) rfl (by decide) rfl ⟨rfl, by decide, by decide⟩ (by decide +kernel) (fun w h Y => PySem.W.kIn_of Y) ?F (fun w H a ns hl hS => ⟨a, ns, rfl, hS, hl, fun _ => rfl⟩)
  case F =>
    intro w mg fa h KX G hmg
    refine' Lr.all_mk KX G hmg ?a1 ?l1 ?c1 ?k1 ?a2 ?l2 ?c2 ?k2 ?a3 ?l3 ?c3 ?k3 ?a4 ?l4 ?c4 ?k4 ?a5 ?l5 ?c5 ?k5 ?a6 ?l6 ?c6 ?k6 ?a7 ?l7 ?c7 ?k7 ?a8 ?l8 ?c8 ?k8 ?a9 ?l9 ?c9 ?k9 ?a10 ?l10 ?c10 ?k10 ?a11 ?l11 ?c11 ?k11 ?a12 ?l12 ?c12 ?k12 ?a13 ?l13 ?c13 ?k13 ?a14 ?l14 ?c14 ?k14 ?a15 ?l15 ?c15 ?k15 ?a16 ?l16 ?c16 ?k16 ?a17 ?l17 ?c17 ?k17 ?a18 ?l18 ?c18 ?k18 ?a19 ?l19 ?c19 ?k19 ?a20 ?l20 ?c20 ?k20 ?a21 ?l21 ?c21 ?k21 ?a22 ?l22 ?c22 ?k22 ?a23 ?l23 ?c23 ?k23 ?a24 ?l24 ?c24 ?k24 ?a25 ?l25 ?c25 ?k25 ?zlen ?zrange ?ztuple ?zlist ?zabs ?zint ?zstr ?zbool ?zrepr ?zisinstance ?zenumerate ?zsorted ?zset ?zall ?zmin ?zmax ?zany ?zzip ?zsum ?zreversed
    (case a1 => k_is); (case l1 => k_is); (case c1 => k_is); (case k1 => k_is); (case a2 => k_is); (case l2 => k_is)
    (case c2 => k_is); (case k2 => k_is); (case a3 => k_is); (case l3 => k_is); (case c3 => k_is); (case k3 => k_is)
    (case a4 => k_is); (case l4 => k_is); (case c4 => k_is); (case k4 => k_is); (case a5 => k_is); (case l5 => k_is)
    (case c5 => k_is); (case k5 => k_is); (case a6 => k_is); (case l6 => k_is); (case c6 => k_is); (case k6 => k_is)
    (case a7 => k_is); (case l7 => k_is); (case c7 => k_is); (case k7 => k_is); (case a8 => k_is); (case l8 => k_is)
    (case c8 => k_is); (case k8 => k_is); (case a9 => k_is); (case l9 => k_is); (case c9 => k_is); (case k9 => k_is)
    (case a10 => k_is); (case l10 => k_is); (case c10 => k_is); (case k10 => k_is); (case a11 => k_is); (case l11 => k_is)
    (case c11 => k_is); (case k11 => k_is); (case a12 => k_is); (case l12 => k_is); (case c12 => k_is); (case k12 => k_is)
    (case a13 => k_is); (case l13 => k_is); (case c13 => k_is); (case k13 => k_is); (case a14 => k_is); (case l14 => k_is)
    (case c14 => k_is); (case k14 => k_is); (case a15 => k_is); (case l15 => k_is); (case c15 => k_is); (case k15 => k_is)
    (case a16 => k_is); (case l16 => k_is); (case c16 => k_is); (case k16 => k_is); (case a17 => k_is); (case l17 => k_is)
    (case c17 => k_is); (case k17 => k_is); (case a18 => k_is); (case l18 => k_is); (case c18 => k_is); (case k18 => k_is)
    (case a19 => k_is); (case l19 => k_is); (case c19 => k_is); (case k19 => k_is); (case a20 => k_is); (case l20 => k_is)
    (case c20 => k_is); (case k20 => k_is); (case a21 => k_is); (case l21 => k_is); (case c21 => k_is); (case k21 => k_is)
    (case a22 => k_is); (case l22 => k_is); (case c22 => k_is); (case k22 => k_is); (case a23 => k_is); (case l23 => k_is)
    (case c23 => k_is); (case k23 => k_is); (case a24 => k_is); (case l24 => k_is); (case c24 => k_is); (case k24 => k_is)
    (case a25 => k_is); (case l25 => k_is); (case c25 => k_is); (case k25 => k_is); (case zlen => k_is); (case zrange => k_is)
    (case ztuple => k_is); (case zlist => k_is); (case zabs => k_is); (case zint => k_is); (case zstr => k_is); (case zbool => k_is)
    (case zrepr => k_is); (case zisinstance => k_is); (case zenumerate => k_is); (case zsorted => k_is); (case zset => k_is); (case zall => k_is)
    (case zmin => k_is); (case zmax => k_is); (case zany => k_is); (case zzip => k_is); (case zsum => k_is); (case zreversed => k_is)
