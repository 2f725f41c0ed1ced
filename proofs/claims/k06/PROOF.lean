import PyProof.Rows.All
import Wide.All
import OpenK.AllK
import Wide.FinOn
import PySem.Challenge.RW_lanerules_k06_words_judged
import HandS.ForMost
import HandS.Wide
import HandS.Conv
import HandS.More
import HandS.Style
import HandS.TupMul
import HandS.TupAny
import HandS.IsInst
import HandS.EndBits
import HandS.Evl
import KE.GoesMore
import PyProof.Rows.StrStep
import PyProof.Rows.RegReprOcc
set_option Elab.async false
set_option linter.all false
set_option maxRecDepth 100000
set_option maxHeartbeats 4000000
namespace Lr
open PySem L2
abbrev Ex := Evl.Ex
/-! ### the drawer of numbers: its dict and its list of great numbers are known only by what always holds of them -/
def canKvs (d a : Addr) (t : Int) : List (Key × V) := [(Sum.inr "deep", .ref d), (Sum.inr "all", .ref a), (Sum.inr "times", .int t)]
def DeepOk (ds : List Int) : Prop := (∀ x ∈ ds, 0 ≤ x) ∧ ds.length ≤ 63
section
variable (P : Program) (w : World)
abbrev H0 : Hp := fun _ => none
def phiC (c d a : Addr) : Heap → Prop := fun h => ∃ t : Int, ObjOk P w H0 h c (.dK (canKvs d a t))
def phiD (d : Addr) : Heap → Prop := fun h => ∃ ds : List Int, DeepOk ds ∧ ObjOk P w H0 h d (.lst (ds.map V.int))
/-- the drawer stands at c -/
def Can (H : Hp) (c : Addr) : Prop := ∃ d a cs, H c = some (.ext (phiC P w c d a)) ∧ H d = some (.ext (phiD P w d)) ∧ H a = some (.lst (cs.map V.int)) ∧ cs ≠ [] ∧ cs.length ≤ 64 ∧ d ≠ c
end
section
variable {P : Program} {w : World} {H H' : Hp} {c d a : Addr}
theorem Can.mono (h : Can P w H c) (e : Ex H H') : Can P w H' c := by
  obtain ⟨d, a, cs, h1, h2, h3, h4⟩ := h
  exact ⟨d, a, cs, e _ _ h1, e _ _ h2, e _ _ h3, h4⟩
theorem stayC {h1 h2 : Heap} (x : phiC P w c d a h1) (k : ∀ o, h1.get? c = some o → h2.get? c = some o) : phiC P w c d a h2 := by
  obtain ⟨t, x⟩ := x
  refine ⟨t, ObjOk.stay x (fun b u hb e => ?_) (fun _ q => nomatch q) fun _ _ q => nomatch q⟩
  rcases hb with rfl | q
  · exact k u e
  · cases q
theorem stayD {h1 h2 : Heap} (x : phiD P w d h1) (k : ∀ o, h1.get? d = some o → h2.get? d = some o) : phiD P w d h2 := by
  obtain ⟨t, g, x⟩ := x
  refine ⟨t, g, ObjOk.stay x (fun b u hb e => ?_) (fun _ q => nomatch q) fun _ _ q => nomatch q⟩
  rcases hb with rfl | q
  · exact k u e
  · cases q
theorem there_dK {h : Heap} {kvs : List (Key × V)} (x : ObjOk P w H h c (.dK kvs)) : ∃ o, h.get? c = some o := by
  obtain ⟨_, _, _, _, o, _, _, e, _⟩ := x
  exact ⟨o, e⟩
theorem there_lst {h : Heap} {xs : List V} (x : ObjOk P w H h c (.lst xs)) : ∃ o, h.get? c = some o := by
  obtain ⟨_, _, _, _, e⟩ := x
  exact ⟨_, e⟩
end
section
variable {X : Cx} {pins : List (Addr × Obj)} {σ : St} {H : Hp} {s : Shared} {c d a : Addr}
/-- another description of the same object -/
theorem reword {o o' : HO} (I : Inv X pins σ H s) (h : H c = some o) (mu : Mut (some o)) (new : ObjOk X.prog X.w (upd H c o') s.heap c o') (there : ∃ u, s.heap.get? c = some u) : Inv X pins σ (upd H c o') s :=
  I.write (x := c) (e := c) (t' := s.toks) (h' := s.heap) (by rw [h]; exact mu) (.inl rfl) (fun _ _ _ q => q) there new
theorem opened (I : Inv X pins σ H s) (h1 : H c = some (.ext (phiC X.prog X.w c d a))) (h2 : H d = some (.ext (phiD X.prog X.w d))) (hcd : d ≠ c) :
    ∃ t ds, DeepOk ds ∧ Inv X pins σ (upd (upd H c (.dK (canKvs d a t))) d (.lst (ds.map V.int))) s := by
  obtain ⟨⟨t, x1⟩, th1, _⟩ := I.hok c _ h1
  obtain ⟨⟨ds, g, x2⟩, th2, _⟩ := I.hok d _ h2
  have I1 := reword (o' := .dK (canKvs d a t)) I h1 trivial x1 th1
  have h3 : upd H c (.dK (canKvs d a t)) d = some (.ext (phiD X.prog X.w d)) := by rw [upd_ne hcd]; exact h2
  exact ⟨t, ds, g, reword (o' := .lst (ds.map V.int)) I1 h3 trivial x2 th2⟩
theorem closed {t : Int} {ds : List Int} (I : Inv X pins σ H s) (h1 : H c = some (.dK (canKvs d a t))) (h2 : H d = some (.lst (ds.map V.int))) (g : DeepOk ds) (hcd : d ≠ c) :
    Inv X pins σ (upd (upd H c (.ext (phiC X.prog X.w c d a))) d (.ext (phiD X.prog X.w d))) s := by
  have x1 : ObjOk X.prog X.w H0 s.heap c (.dK (canKvs d a t)) := I.hok c _ h1
  have x2 : ObjOk X.prog X.w H0 s.heap d (.lst (ds.map V.int)) := I.hok d _ h2
  have I1 := reword (o' := .ext (phiC X.prog X.w c d a)) I h1 trivial ⟨⟨t, x1⟩, there_dK x1, fun _ _ p k => stayC p k⟩ (there_dK x1)
  have h3 : upd H c (.ext (phiC X.prog X.w c d a)) d = some (.lst (ds.map V.int)) := by rw [upd_ne hcd]; exact h2
  exact reword (o' := .ext (phiD X.prog X.w d)) I1 h3 trivial ⟨⟨ds, g, x2⟩, there_lst x2, fun _ _ p k => stayD p k⟩ (there_lst x2)
end
/-- a body that opens the drawer, and closes it ahead of each return -/
def tDrawer (P : Program) (w : World) (t : TS) : TS := fun D σ H => ∃ c d a, H c = some (.ext (phiC P w c d a)) ∧ H d = some (.ext (phiD P w d)) ∧ d ≠ c ∧
  ∀ tm ds, DeepOk ds → t ⟨fun _ _ => False, fun v H' => (∃ tm' ds', H' c = some (.dK (canKvs d a tm')) ∧ H' d = some (.lst (ds'.map V.int)) ∧ DeepOk ds' ∧
    D.rt v (upd (upd H' c (.ext (phiC P w c d a))) d (.ext (phiD P w d)))), fun _ _ => False, fun _ _ => False⟩ σ (upd (upd H c (.dK (canKvs d a tm))) d (.lst (ds.map V.int)))
theorem pss_drawer {X : Cx} {st : List Stmt} {t : TS} (h : PSs X st t) : PSs X st (tDrawer X.prog X.w t) := by
  refine ⟨fun pins s σ H D I hw => ?_⟩
  obtain ⟨c, d, a, h1, h2, hcd, hw⟩ := hw
  obtain ⟨tm, ds, g, I1⟩ := opened I h1 h2 hcd
  refine thn (h.run pins s σ _ _ I1 (hw tm ds g)) fun f s1 q => ?_
  cases f with
  | next => obtain ⟨_, _, _, z⟩ := q; exact z.elim
  | brk => obtain ⟨_, _, _, z⟩ := q; exact z.elim
  | cont => obtain ⟨_, _, _, z⟩ := q; exact z.elim
  | ret v =>
    obtain ⟨x, σ', H', I2, r, tm', ds', e1, e2, g', z⟩ := q
    exact ⟨x, σ', _, closed I2 e1 e2 g' hcd, r, z⟩
end Lr

namespace Lr
open PySem L2 PySem.Spec PyProof.Rows
/-! ### a promise that is asked for only where no repr is under way -/
structure FnG (P : Program) (w : World) (K : PySem.W.Frag) (mg : Str → Option Value) (base : Heap)
    (k : Nat) (f : Addr) (fd : FuncData) (ps : List Str) (sp : Sp) : Prop where
  len : ∀ vs H Q E, sp vs H Q E → vs.length = ps.length
  go : ∀ (A : Around) (outer : List Env) (s : Shared) (H : Hp) (args : Args) (us : List Value)
      (vs : List V) (Q : VK) (E : XK), Room k A → A.guards = some [] →
      Env0 P w K mg base A outer s H → BindsTo s fd args (ps.zip us) → Vals vs us → sp vs H Q E →
      codeAny (model P w) A (.call (.ref f) args) (CR CX0 outer P w H s Q E) s
section
variable {P : Program} {w : World} {K : PySem.W.Frag} {mg : Str → Option Value} {base : Heap}
/-- by its body -/
theorem fnG {x qual : Str} {st : Stmt} {f : Addr} {fd : FuncData} {N ps : List Str} {k : Nat} {sp : Sp}
    (F : Fun K x qual st f fd) (S : FnScope N ps (defScope st))
    (len : ∀ vs H Q E, sp vs H Q E → vs.length = ps.length)
    (hbody : ∀ (cdv : Value) (A : Around) (outer : List Env) (s : Shared) (H : Hp) (vs : List V) (Q : VK) (E : XK),
      Room k (A.deeper (envOfC qual (defScope st) s.heap.objs.size f cdv)) →
      (A.deeper (envOfC qual (defScope st) s.heap.objs.size f cdv)).guards = some [] → sp vs H Q E →
      ∃ t, PSs (cxOf CX0 P w K mg base N qual (defScope st) f cdv A outer s H E).nox (defBody st) t ∧
        t { nx := fun _ G => Q .non G, rt := Q } (start N vs) H) :
    FnG P w K mg base (k + 1) f fd ps sp := by
  obtain ⟨oc, od, kV, doc, pm, an, cdv, ct, osl, rfl, lk, hcd⟩ := F.ex
  refine ⟨len, ?_⟩
  intro A outer s H args us vs Q E room hg env hb rel want
  have many := len _ _ _ _ want
  have inK : K.In s.heap := env.mod.kin.keeps fun b o e => (env.bs b o e).1
  have lim := env.mod.nolimit.keeps (h' := s.heap) fun b o e => (env.bs b o e).1
  refine codeAny_call_function room.depth (inK _ _ lk) rfl S.co S.gen rfl (PySem.W.codeRec_of inK hcd)
    (hb _ _ _ _ (wpAny_newFunctionEnv_cells S.kind (fun y hy => ?_) fun env' he s1 x1 => ?_))
  · obtain ⟨nm, val⟩ := y
    rcases S.par nm (List.of_mem_zip hy).1 with q | q
    · exact Or.inl q
    · exact Or.inr ⟨q, PySem.W.cellsFrom_some _ _ _ (Or.inl q)⟩
  · subst he
    refine ⟨lim.keeps x1.toInCall.keep, codeAny_func ?_⟩
    obtain ⟨t, ht, hq⟩ := hbody cdv A outer s H vs Q E (room.deeper _) hg want
    have J := inv_start (CX := CX0) (E := E) S room.hd env many rel x1
    refine wpAny_mono (ht.nox.run [] s1 (start N vs) H _ J hq) ?_ fun _ _ z => z
    intro fl s2 out
    cases fl with
    | ret u =>
      obtain ⟨v, σ2, H2, J2, rv, q⟩ := out
      exact ⟨v, H2, J2.os, J2.bare, J2.base, J2.hok, rv, q⟩
    | next =>
      obtain ⟨σ2, H2, J2, q⟩ := out
      exact ⟨.non, H2, J2.os, J2.bare, J2.base, J2.hok, rfl, q⟩
    | brk => obtain ⟨_, _, _, z⟩ := out; exact z.elim
    | cont => obtain ⟨_, _, _, z⟩ := out; exact z.elim
end
section
variable {X : Cx} {k : Nat} {f : Addr} {fd : FuncData} {ps : List Str} {sp : Sp} {x : Str} {p pos : Pos} {e : Expr} {es : List Expr} {t : TA}
/-- a call of such a def, where no repr is under way -/
theorem pe_callG (F : FnG X.prog X.w X.K X.mg X.base k f fd ps sp) (hr : Room k X.A) (hgd : X.A.guards = some []) (hg : Gl X x)
    (hm : X.mg x = some (.ref f)) (hk : PySem.W.keepIn X.K (.ref f) = true) (hb : Binds X.K fd ps [])
    (ha : PA X (e :: es) t) (hdb : (x == ("__debug__" : Str)) = false := by decide)
    (he : starEach (e :: es) X.env = (false, eval e X.env) :: starEach es X.env := by rfl)
    (hpl : (backTo pos (starEach es X.env)).any (·.1) = false := by rfl) :
    PE X (.Call (.Name x p) (e :: es) [] pos) (tCall sp [] E0 t) := by
  refine ⟨fun pins s σ H Q I h => wpAny_Call_Name_kw (ld_glob I hg hm ?_ hdb)⟩
  refine PySem.W.callWith_K (h₀ := X.base) I.ok.mod.kin hk ?_ he hpl
  refine thn (ha.run pos pins s σ H _ I h) ?_
  rintro us s1 ⟨vs, H1, I1, r, q⟩
  refine ⟨I1.kIn, ?_⟩
  rw [List.append_nil] at q
  have len := F.len _ _ _ _ q
  have bind := hb s1 us I1.kIn (by rw [List.append_nil, ← r.length]; exact len)
  rw [List.append_nil] at bind
  refine wpAny_call (codeAny_mono (F.go X.A X.stack s1 H1 ⟨us, []⟩ us vs Q E0 hr hgd I1.env0 bind r q) ?_)
  intro res s2 out
  cases res with
  | error u => exact False.elim out
  | ok fl =>
    cases fl with
    | ret u => exact I1.after out
    | next => exact False.elim out
    | brk => exact False.elim out
    | cont => exact False.elim out
end
/-! ### the law's end -/
theorem lawG {P : Program} {w : World} {K : PySem.W.Frag} {mg mb : Str → Option Value} {k : Nat} {fa a : Addr} {fd : FuncData} {x : Str} {sp : Sp}
    {t0 : Shared} {us : List Value} {ns : List Int} (inK : K.In t0.heap) (gl : t0.heap.Ns mainGlobals mg) (bl : t0.heap.Ns builtinsNs mb)
    (blt : ∀ y : Str, y ≠ "__name__" → mb y = bootBuiltins y) (lim : t0.heap.NoLimit) (nog : t0.gens = #[])
    (at' : t0.heap.get? a = some { cls := .type "list", data := .seq us.toArray }) (hints : IntsAre us ns) (short : ns.length ≤ sizeLine)
    (room : Room k callerA) (F : ∀ base : Heap, K.In base → base.Ns mainGlobals mg → FnG P w K mg base k fa fd [x] sp)
    (bind : ∀ (s : Shared) (u : Value), BindsTo s fd ⟨[u], []⟩ [(x, u)])
    (want : ∀ H : Hp, SqL K H a (ns.map V.int) → sp [.ref a] H (fun v _ => v = .bl true) fun _ _ _ => False) :
    codeAny (model P w) callerA (.call (.ref fa) ⟨[.ref a], []⟩)
      (fun r s2 => r = .ok (.ret (.bool true)) ∧ OldK t0.heap s2.heap ∧ s2.os = t0.os ∧ AllBare s2.gens) t0 := by
  have vals : Vals (ns.map V.int) us := vals_ints hints
  have same := hints.length
  -- over any abstract heap that tracks nothing but the script
  have main : ∀ H : Hp, (∀ b u, H b = some u → b = a ∧ K.lookup a = none ∧ ∃ o ys, u = .frz o (.lst ys)) → SqL K H a (ns.map V.int) → HOk P w H t0.heap →
      codeAny (model P w) callerA (.call (.ref fa) ⟨[.ref a], []⟩)
        (fun r s2 => r = .ok (.ret (.bool true)) ∧ OldK t0.heap s2.heap ∧ s2.os = t0.os ∧ AllBare s2.gens) t0 := by
    intro H only sq ok
    have noDict : ∀ {b : Addr} {o : Obj} {es : Array DictEntry} {ep : Nat}, t0.heap.get? b = some o → o.data = .dict es ep → H b = none := by
      intro b o es ep e dd
      cases q : H b with
      | none => rfl
      | some u =>
        obtain ⟨rfl, _⟩ := only b u q
        rw [at'] at e
        cases e
        cases dd
    have ns' : ∀ {b : Addr} {m : Str → Option Value}, t0.heap.Ns b m → (hidT t0.heap H).Ns b m := by
      rintro b m ⟨o, es, ep, e, dd, r⟩
      exact ⟨o, es, ep, hidT_get e (noDict e dd), dd, r⟩
    have inB : K.In (hidT t0.heap H) := by
      intro b o e
      refine hidT_get (inK b o e) ?_
      cases q : H b with
      | none => rfl
      | some u =>
        obtain ⟨rfl, z, _⟩ := only b u q
        rw [z] at e
        cases e
    obtain ⟨mc, l1, l2⟩ := lim
    have md : Mod K mg (hidT t0.heap H) := ⟨inB, ns' gl, ⟨mb, ns' bl, blt⟩, mc, ns' l1, l2⟩
    have env : Env0 P w K mg (hidT t0.heap H) callerA [] t0 H :=
      ⟨rfl, md, fun b o e => of_hidT e, Nat.le_of_eq (hidT_size _ _), trivial, fun b hb => absurd hb List.not_mem_nil, ok, AllBare.of_eq nog⟩
    refine codeAny_mono ((F _ inB (ns' gl)).go callerA [] t0 H ⟨[.ref a], []⟩ [.ref a] [.ref a] _ _ room rfl env (bind t0 (.ref a)) (.cons rfl .nil) (want H sq)) ?_
    intro r s2 out
    cases r with
    | error u => exact False.elim out
    | ok fl =>
      cases fl with
      | next => exact False.elim out
      | brk => exact False.elim out
      | cont => exact False.elim out
      | ret u =>
        obtain ⟨v, H2, os, bare, un, ok2, rv, q⟩ := out
        obtain rfl : v = .bl true := q
        obtain rfl : u = Value.bool true := rv
        refine ⟨rfl, OldK.of_keep ?_, os, bare⟩
        intro b o e
        cases z : H b with
        | none => exact un.keep b o e z (by intro y; cases y) (by simp)
        | some u =>
          obtain ⟨_, _, ob, ys, rfl⟩ := only b u z
          obtain ⟨e1, _⟩ := ok b _ z
          obtain ⟨e2, _⟩ := ok2 b _ (un.frzs b ob _ z)
          rw [e] at e1
          cases e1
          exact e2
  cases lk : K.lookup a with
  | some o =>
    have e := inK a o lk
    rw [at'] at e
    cases e
    refine main (fun _ => none) (fun b u z => by cases z) (.inr ⟨_, us.toArray, _, lk, rfl, rfl, rfl, ?_, by simpa using vals⟩) (fun b u z => by cases z)
    rw [List.size_toArray, same]
    exact short
  | none =>
    refine main (fun b => if b = a then some (.frz { cls := .type "list", data := .seq us.toArray } (.lst (ns.map V.int))) else none) ?_ (.inl (.inr ⟨_, if_pos rfl⟩)) ?_
    · intro b u z
      by_cases hb : b = a
      · have z2 := (if_pos hb).symm.trans z
        cases z2
        exact ⟨hb, lk, _, _, rfl⟩
      · have z2 := (if_neg hb).symm.trans z
        cases z2
    · intro b u z
      by_cases hb : b = a
      · have z2 := (if_pos hb).symm.trans z
        subst hb
        cases z2
        exact ⟨at', by rw [List.length_map]; exact short, us, _, vals, at'⟩
      · have z2 := (if_neg hb).symm.trans z
        cases z2
/-- what k_head leaves, from the promise of the law's def -/
theorem walkG {l : PySem.W.OpenLaw} {n k : Nat} {q : Program} {loose : List Str} {XP : (Str → Option Value) → Heap → Prop} {YP : World → Heap → Prop} {d : DefRec}
    {K : Params → PySem.W.Frag} {sp : World → Sp} {x : Str} (hn : l.most = some n) (hn2 : n ≤ sizeLine) (hdf : d.params.defaults = []) (hr : Room k callerA)
    (hY : ∀ (w : World) (h : Heap), YP w h → (K w.params).In h)
    (F : ∀ (w : World) (mg : Str → Option Value) (fa : Addr) (h : Heap), (K w.params).In h → h.Ns mainGlobals mg → mg d.name = some (.ref fa) →
      ∃ fd : FuncData, (∀ (s : Shared) (u : Value), BindsTo s fd ⟨[u], []⟩ [(x, u)]) ∧
        ∀ base : Heap, (K w.params).In base → base.Ns mainGlobals mg → FnG l.prog w (K w.params) mg base k fa fd [x] (sp w))
    (want : ∀ (w : World) (H : Hp) (a : Addr) (ns : List Int), ns.length ≤ n → SqL (K w.params) H a (ns.map V.int) → sp w [.ref a] H (fun v _ => v = .bl true) fun _ _ _ => False) :
    PySem.W.WalkO q loose XP YP l.row.toRowW d [] (fun f vs => PySem.call f vs) := by
  refine Att.attach_callB hn hdf ?_
  intro w s0 s1 mg mb fa o pm cd doc a vs ns G Y ho hd hcd hmg hobj hints hlen _ hg
  obtain ⟨fd, hb, hF⟩ := F w mg fa _ (hY w _ Y) G.T.g hmg
  exact lawG (hY w _ Y) G.T.g G.T.b G.T.builtins G.T.nolimit hg hobj hints (Nat.le_trans hlen hn2) hr hF hb fun H hS => want w H a ns hlen hS
end Lr

namespace Lr
open PySem L2 PySem.Spec PyProof.Rows
def keyD : Key → PyData
  | .inl i => .int i
  | .inr x => .str x
/-! ### data: what a value is, whatever it holds -/
mutual
inductive Dv (H : Hp) : V → PyData → Prop
  | non : Dv H .non .none
  | bl (b : Bool) : Dv H (.bl b) (.bool b)
  | int (i : Int) : Dv H (.int i) (.int i)
  | str (x : Str) : Dv H (.str x) (.str x)
  | lst {a : Addr} {xs : List V} {ds : List PyData} : H a = some (.lst xs) → DvAll H xs ds → Dv H (.ref a) (.list ds)
  | tup {a : Addr} {xs : List V} {ds : List PyData} : H a = some (.tup xs) → DvAll H xs ds → Dv H (.ref a) (.tuple ds)
  | dic {a : Addr} {kvs : List (Key × V)} {ds : List (PyData × PyData)} : H a = some (.dK kvs) → DvKv H kvs ds → Dv H (.ref a) (.dict ds)
inductive DvAll (H : Hp) : List V → List PyData → Prop
  | nil : DvAll H [] []
  | cons {v : V} {vs : List V} {d : PyData} {ds : List PyData} : Dv H v d → DvAll H vs ds → DvAll H (v :: vs) (d :: ds)
inductive DvKv (H : Hp) : List (Key × V) → List (PyData × PyData) → Prop
  | nil : DvKv H [] []
  | cons {k : Key} {v : V} {vs : List (Key × V)} {d : PyData} {ds : List (PyData × PyData)} : Dv H v d → DvKv H vs ds → DvKv H ((k, v) :: vs) ((keyD k, d) :: ds)
end
mutual
def hasList : PyData → Bool
  | .list _ => true
  | .tuple xs => hasListAll xs
  | .dict kvs => hasListKv kvs
  | _ => false
def hasListAll : List PyData → Bool
  | [] => false
  | x :: xs => hasList x || hasListAll xs
def hasListKv : List (PyData × PyData) → Bool
  | [] => false
  | (_, v) :: xs => hasList v || hasListKv xs
end
section
variable {H H' : Hp}
mutual
theorem Dv.mono (e : Ex H H') : ∀ {v : V} {d : PyData}, Dv H v d → Dv H' v d
  | _, _, .non => .non
  | _, _, .bl b => .bl b
  | _, _, .int i => .int i
  | _, _, .str x => .str x
  | _, _, .lst h t => .lst (e _ _ h) (DvAll.mono e t)
  | _, _, .tup h t => .tup (e _ _ h) (DvAll.mono e t)
  | _, _, .dic h t => .dic (e _ _ h) (DvKv.mono e t)
theorem DvAll.mono (e : Ex H H') : ∀ {v : List V} {d : List PyData}, DvAll H v d → DvAll H' v d
  | _, _, .nil => .nil
  | _, _, .cons a b => .cons (Dv.mono e a) (DvAll.mono e b)
theorem DvKv.mono (e : Ex H H') : ∀ {v : List (Key × V)} {d : List (PyData × PyData)}, DvKv H v d → DvKv H' v d
  | _, _, .nil => .nil
  | _, _, .cons a b => .cons (Dv.mono e a) (DvKv.mono e b)
end
theorem DvAll.len : ∀ {vs : List V} {ds : List PyData}, DvAll H vs ds → vs.length = ds.length
  | _, _, .nil => rfl
  | _, _, .cons _ t => congrArg (· + 1) t.len
theorem DvAll.app : ∀ {vs ws : List V} {ds es : List PyData}, DvAll H vs ds → DvAll H ws es → DvAll H (vs ++ ws) (ds ++ es)
  | _, _, _, _, .nil, s => s
  | _, _, _, _, .cons a t, s => .cons a (t.app s)
theorem DvAll.get : ∀ {vs : List V} {ds : List PyData} {i : Nat} {v : V}, DvAll H vs ds → vs[i]? = some v → ∃ d, ds[i]? = some d ∧ Dv H v d
  | _, _, _, _, .nil, e => by simp at e
  | _, _, 0, _, .cons a _, e => by simp at e; subst e; exact ⟨_, rfl, a⟩
  | _, _, i + 1, _, .cons _ t, e => by
    obtain ⟨d, h1, h2⟩ := t.get (i := i) (by simpa using e)
    exact ⟨d, by simpa using h1, h2⟩
theorem DvAll.getD : ∀ {vs : List V} {ds : List PyData} {i : Nat} {d : PyData}, DvAll H vs ds → ds[i]? = some d → ∃ v, vs[i]? = some v ∧ Dv H v d
  | _, _, _, _, .nil, e => by simp at e
  | _, _, 0, _, .cons a _, e => by simp at e; subst e; exact ⟨_, rfl, a⟩
  | _, _, i + 1, _, .cons _ t, e => by
    obtain ⟨v, h1, h2⟩ := t.getD (i := i) (by simpa using e)
    exact ⟨v, by simpa using h1, h2⟩
theorem DvAll.take : ∀ {vs : List V} {ds : List PyData} (n : Nat), DvAll H vs ds → DvAll H (vs.take n) (ds.take n)
  | _, _, 0, _ => .nil
  | _, _, _ + 1, .nil => .nil
  | _, _, n + 1, .cons a t => .cons a (t.take n)
theorem DvAll.drop : ∀ {vs : List V} {ds : List PyData} (n : Nat), DvAll H vs ds → DvAll H (vs.drop n) (ds.drop n)
  | _, _, 0, t => t
  | _, _, _ + 1, .nil => .nil
  | _, _, n + 1, .cons _ t => t.drop n
theorem dv_ints (H : Hp) : ∀ ns : List Int, DvAll H (ns.map V.int) (ns.map PyData.int)
  | [] => .nil
  | n :: r => .cons (.int n) (dv_ints H r)
end
/-! ### repr of data -/
theorem key_reads {h : Heap} {k : Key} {v : Value} (e : keyIs k v = true) : Reads h v (keyD k) [] := by
  rcases keyIs_shape e with ⟨i, t, rfl, rfl⟩ | ⟨x, t, rfl, rfl⟩
  · exact .int i t
  · exact .str x t
theorem keys_read {P : Program} {w : World} {h : Heap} {H : Hp} {es : List DictEntry} {vs : List (Key × Value)} (p : Pairs (mixKind P w) es vs) :
    ∀ {kvs : List (Key × V)} {ds : List (PyData × PyData)}, KV kvs vs → DvKv H kvs ds → ReadsAll h (es.map (·.key)) (ds.map (·.1)) [] := by
  induction p with
  | nil =>
    intro kvs ds q z
    cases q
    cases z
    exact .nil
  | cons h1 _ _ ih =>
    intro kvs ds q z
    cases q with
    | cons r q =>
      cases z with
      | cons a z =>
        have e := r.1
        simp only at e
        rw [← e] at h1
        exact ReadsAll.cons (as := []) (bs := []) (key_reads h1) (ih q z)
section
variable {X : Cx} {pins : List (Addr × Obj)} {σ : L2.St} {H : Hp} {s : Shared}
mutual
theorem Dv.reads (I : Inv X pins σ H s) : ∀ {v : V} {d : PyData} {u : Value}, Dv H v d → RelV v u → ∃ as, Reads s.heap u d as ∧ (hasList d = false → sysModules ∉ as)
  | _, _, _, .non, r => by cases r; exact ⟨[], .none, fun _ => List.not_mem_nil⟩
  | _, _, _, .bl b, r => by cases r; exact ⟨[], .bool b, fun _ => List.not_mem_nil⟩
  | _, _, _, .int i, r => by obtain ⟨t, rfl⟩ := r; exact ⟨[], .int i t, fun _ => List.not_mem_nil⟩
  | _, _, _, .str x, r => by obtain ⟨t, rfl⟩ := r; exact ⟨[], .str x t, fun _ => List.not_mem_nil⟩
  | _, _, _, .lst h t, r => by
    cases r
    obtain ⟨_, its, n, rv, e⟩ := I.hok _ _ h
    obtain ⟨as, q, _⟩ := DvAll.reads I t rv
    exact ⟨_ :: as, .list e rfl rfl (by simpa using q), fun z => by simp [hasList] at z⟩
  | _, _, _, .tup h t, r => by
    cases r
    obtain ⟨_, its, rv, o, e, hc, n, hd⟩ := I.hok _ _ h
    obtain ⟨as, q, z⟩ := DvAll.reads I t rv
    exact ⟨as, .tuple e hc hd (by simpa using q), fun y => z (by simpa [hasList] using y)⟩
  | _, _, _, .dic h t, r => by
    cases r
    obtain ⟨_, ns, vs, kv, o, es, ep, e, hx, hd, _, hp, _⟩ := I.hok _ _ h
    obtain ⟨bs, q, z⟩ := DvKv.reads I t kv hp
    refine ⟨_ :: [] ++ bs, .dict e hx.1 hd (keys_read hp kv t) q, fun y hm => ?_⟩
    have y2 := z (by simpa [hasList] using y)
    rcases List.mem_cons.mp (by simpa using hm) with rfl | hm
    · simp at ns
    · exact y2 hm
theorem DvAll.reads (I : Inv X pins σ H s) : ∀ {vs : List V} {ds : List PyData} {us : List Value}, DvAll H vs ds → Vals vs us → ∃ as, ReadsAll s.heap us ds as ∧ (hasListAll ds = false → sysModules ∉ as)
  | _, _, _, .nil, .nil => ⟨[], .nil, fun _ => List.not_mem_nil⟩
  | _, _, _, .cons a b, .cons r q => by
    obtain ⟨as, h1, z1⟩ := Dv.reads I a r
    obtain ⟨bs, h2, z2⟩ := DvAll.reads I b q
    refine ⟨as ++ bs, .cons h1 h2, fun y hm => ?_⟩
    simp only [hasListAll, Bool.or_eq_false_iff] at y
    rcases List.mem_append.mp hm with m | m
    · exact z1 y.1 m
    · exact z2 y.2 m
theorem DvKv.reads (I : Inv X pins σ H s) : ∀ {kvs : List (Key × V)} {ds : List (PyData × PyData)} {vs : List (Key × Value)} {es : List DictEntry}, DvKv H kvs ds → KV kvs vs → Pairs (mixKind X.prog X.w) es vs →
    ∃ bs, ReadsAll s.heap (es.map (·.val)) (ds.map (·.2)) bs ∧ (hasListKv ds = false → sysModules ∉ bs)
  | _, _, _, _, .nil, .nil, .nil => ⟨[], .nil, fun _ => List.not_mem_nil⟩
  | _, _, _, _, .cons a b, .cons r q, .cons h1 h2 t => by
    obtain ⟨as, g1, z1⟩ := Dv.reads I a r.2
    obtain ⟨bs, g2, z2⟩ := DvKv.reads I b q t
    refine ⟨as ++ bs, .cons (by show Reads s.heap (DictEntry.val _) _ as; rw [h2]; exact g1) g2, fun y hm => ?_⟩
    simp only [hasListKv, Bool.or_eq_false_iff] at y
    rcases List.mem_append.mp hm with m | m
    · exact z1 y.1 m
    · exact z2 y.2 m
end
end
/-- what repr can show: small enough, and no list beside a dict, but for one just made -/
structure Fit (d : PyData) : Prop where
  sh : d.showable = true
  len : d.shown.length ≤ sizeLine
  dep : d.depth ≤ 60
def NoSys (v : V) (d : PyData) : Prop := hasList d = false ∨ ∃ p ds, v = .ref p ∧ d = .list ds ∧ p ≠ sysModules ∧ hasListAll ds = false
def rRepr : List V → Hp → VK → Prop := fun xs H Q => ∃ v d, xs = [v] ∧ Dv H v d ∧ Fit d ∧ (d.hasDict = true → NoSys v d) ∧ Q (.str d.shown) H
theorem reads_fit {X : Cx} {pins : List (Addr × Obj)} {σ : L2.St} {H : Hp} {s : Shared} {v : V} {d : PyData} {u : Value} (I : Inv X pins σ H s) (hd : Dv H v d) (rv : RelV v u) (ns : d.hasDict = true → NoSys v d) :
    ∃ as, Reads s.heap u d as ∧ (d.hasDict = true → sysModules ∉ as) := by
  by_cases hh : d.hasDict = true
  · rcases ns hh with n | ⟨p, ds, rfl, rfl, np, nl⟩
    · obtain ⟨as, r, z⟩ := Dv.reads I hd rv
      exact ⟨as, r, fun _ => z n⟩
    · cases rv
      cases hd with
      | lst h t =>
        obtain ⟨_, its, n, rv2, e⟩ := I.hok _ _ h
        obtain ⟨as, q, z⟩ := DvAll.reads I t rv2
        refine ⟨p :: as, .list e rfl rfl (by simpa using q), fun _ hm => ?_⟩
        rcases List.mem_cons.mp hm with e | hm
        · exact np e.symm
        · exact z nl hm
  · obtain ⟨as, r, _⟩ := Dv.reads I hd rv
    exact ⟨as, r, fun z => absurd z hh⟩
theorem call_repr {X : Cx} (hg : X.A.guards = some []) (hu : X.A.units + 64 < cLine) : CallR X (.builtin "repr") rRepr := by
  intro pins s σ H xs us Q I r h
  obtain ⟨v, d, rfl, hd, f, ns, q⟩ := h
  obtain ⟨u, rfl, rv⟩ := vals1 r
  have hdep := f.dep
  obtain ⟨as, rd, hs⟩ := reads_fit I hd rv ns
  have fin : ∀ (h' : Heap) (tk : Nat) (t : Tok), (∀ b o, s.heap.get? b = some o → h'.get? b = some o) → EP X pins σ Q (.str d.shown t) { s with heap := h', toks := tk } :=
    fun h' tk t k => ⟨.str d.shown, H, I.kept k, ⟨_, rfl⟩, q⟩
  cases hd with
  | non =>
    cases rv
    exact PySem.P.repr_of_none (fin s.heap _ _ fun _ _ e => e)
  | bl b =>
    cases rv
    exact PySem.P.repr_of_bool (fin s.heap _ _ fun _ _ e => e)
  | int i =>
    obtain ⟨t, rfl⟩ := rv
    exact PySem.P.repr_of_int (by simpa [PyData.showable] using f.sh) (fin s.heap _ _ fun _ _ e => e)
  | str x =>
    obtain ⟨t, rfl⟩ := rv
    exact PySem.P.repr_of_str (fin s.heap _ _ fun _ _ e => e) (by simpa [PyData.shown] using f.len)
  | lst h t =>
    cases rv
    exact repr_of_reads' rd f.sh hs hg (by omega) (fun _ _ e => e) (fun h' u tk k => fin h' tk u k) f.len
  | tup h t =>
    cases rv
    exact repr_of_reads' rd f.sh hs hg (by omega) (fun _ _ e => e) (fun h' u tk k => fin h' tk u k) f.len
  | dic h t =>
    cases rv
    exact repr_of_reads' rd f.sh hs hg (by omega) (fun _ _ e => e) (fun h' u tk k => fin h' tk u k) f.len
/-- a list display, its place told as no old one -/
def tLstN (t : TA) : TE := fun σ H Q => t σ H fun xs H1 => xs.length ≤ sizeLine ∧ ∀ p, H1 p = none → p ≠ sysModules → Q (.ref p) (upd H1 p (.lst xs))
theorem pe_lstN {X : Cx} {es : List Expr} {t : TA} {pos : Pos} (h : PA X es t) : PE X (.List es pos) (tLstN t) := by
  refine ⟨fun pins s σ H Q I hq => ?_⟩
  refine wpAny_List_spliced (thn (h.run pos pins s σ H _ I hq) ?_)
  rintro us s1 ⟨xs, H1, I1, r, z, q⟩
  refine ⟨by rw [← r.length]; exact z, ?_⟩
  have low : sysModules ≠ s1.heap.objs.size := by
    obtain ⟨o, _, _, e, _⟩ := I1.ok.mod.glob
    have h1 := Heap.lt_size e
    have h2 : sysModules < mainGlobals := by decide
    exact Nat.ne_of_lt (Nat.lt_of_lt_of_le (Nat.lt_trans h2 h1) (Nat.le_trans I1.ok.bsz I1.sz))
  have new : ObjOk X.prog X.w (upd H1 s1.heap.objs.size (.lst xs)) (s1.heap.push { cls := .type "list", data := .seq us.toArray }) s1.heap.objs.size (.lst xs) :=
    ⟨z, us, 0, r, Heap.get?_push_size _ rfl⟩
  exact ⟨.ref s1.heap.objs.size, _, I1.laid (t' := s1.toks) (fun b u e => Heap.get?_push_of_some _ e) (Nat.le_refl _) new, rfl, q _ (I1.hok.fresh (Nat.le_refl _)) low.symm⟩
end Lr

namespace Lr
open PySem L2
/-- the built-in names that the text leaves alone -/
structure Blt (mg : Str → Option Value) : Prop where
  len : mg "len" = none
  range : mg "range" = none
  tuple : mg "tuple" = none
  list : mg "list" = none
  abs : mg "abs" = none
  int : mg "int" = none
  str : mg "str" = none
  bool : mg "bool" = none
  repr : mg "repr" = none
  isinstance : mg "isinstance" = none
  enumerate : mg "enumerate" = none
  sorted : mg "sorted" = none
  set : mg "set" = none
  all : mg "all" = none
  min : mg "min" = none
  max : mg "max" = none
  any : mg "any" = none
  zip : mg "zip" = none
  sum : mg "sum" = none
  reversed : mg "reversed" = none
theorem bt_len : bootBuiltins "len" = some (.builtin "len") := by decide +kernel
theorem bt_abs : bootBuiltins "abs" = some (.builtin "abs") := by decide +kernel
theorem bt_repr : bootBuiltins "repr" = some (.builtin "repr") := by decide +kernel
theorem bt_isinstance : bootBuiltins "isinstance" = some (.builtin "isinstance") := by decide +kernel
theorem bt_sorted : bootBuiltins "sorted" = some (.builtin "sorted") := by decide +kernel
theorem bt_min : bootBuiltins "min" = some (.builtin "min") := by decide +kernel
theorem bt_max : bootBuiltins "max" = some (.builtin "max") := by decide +kernel
theorem bt_any : bootBuiltins "any" = some (.builtin "any") := by decide +kernel
theorem bt_sum : bootBuiltins "sum" = some (.builtin "sum") := by decide +kernel
theorem bt_all : bootBuiltins "all" = some (.builtin "all") := by decide +kernel
theorem bt_int : bootBuiltins "int" = some (.type "int") := by decide +kernel
theorem bt_str : bootBuiltins "str" = some (.type "str") := by decide +kernel
theorem bt_tuple : bootBuiltins "tuple" = some (.type "tuple") := by decide +kernel
theorem bt_list : bootBuiltins "list" = some (.type "list") := by decide +kernel
theorem bt_set : bootBuiltins "set" = some (.type "set") := by decide +kernel
/-! ### rules whose reading names the written part itself (for what stands in a comprehension) -/
section
variable {X : Cx} {K : PySem.W.Frag}
def rTupOf (K : PySem.W.Frag) : List V → Hp → VK → Prop := fun xs H Q => ∃ p ys, xs = [V.ref p] ∧ ((SqL K H p ys ∧ ∀ l, H l = none → Q (.ref l) (upd H l (.tup ys))) ∨ (SqT K H p ys ∧ Q (.ref p) H))
def rLstOf (K : PySem.W.Frag) : List V → Hp → VK → Prop := fun xs H Q => ∃ p ys, xs = [V.ref p] ∧ (SqL K H p ys ∨ SqT K H p ys) ∧ ∀ l, H l = none → Q (.ref l) (upd H l (.lst ys))
def rLenOf (K : PySem.W.Frag) : List V → Hp → VK → Prop := fun xs H Q => ∃ p ys, xs = [V.ref p] ∧ (SqL K H p ys ∨ SqT K H p ys) ∧ Q (.int ys.length) H
theorem k_tuple_of (h : X.K = K) : CallR X (.type "tuple") (rTupOf K) := by subst h; exact call_tuple_of
theorem k_list_of (h : X.K = K) : CallR X (.type "list") (rLstOf K) := by subst h; exact call_list_of
theorem k_len (h : X.K = K) : CallR X (.builtin "len") (rLenOf K) := by subst h; exact call_len_seq
theorem k_isi (h : X.K = K) : CallR X (.builtin "isinstance") (rIsi K) := by subst h; exact call_isi
theorem kx_list (h : X.K = K) : IxR X (rIxL K) := by subst h; exact ix_list
theorem kx_tup (h : X.K = K) : IxR X (rIxT K) := by subst h; exact ix_tup
theorem ks_list (h : X.K = K) : SlR X (rSlL K) := by subst h; exact sl_list
theorem ks_tup (h : X.K = K) : SlR X (rSlA K) := by subst h; exact sl_tupA
theorem ko_catT (h : X.K = K) : OpR X (binaryOp .Add) (rCatA K) := by subst h; exact op_catA
theorem ko_repT (h : X.K = K) : OpR X (binaryOp .Mult) (rRepT K) := by subst h; exact op_repT
theorem ko_eqD (h : X.K = K) (hu : X.A.units + 64 < cLine) : OpR X (compareOp .Eq) (rEqD K) := by subst h; exact op_eqD hu
theorem ko_neD (h : X.K = K) (hu : X.A.units + 64 < cLine) : OpR X (compareOp .NotEq) (rNeD K) := by subst h; exact op_neD hu
theorem ko_in (h : X.K = K) : OpR X (compareOp .In) (rIn K false) := by subst h; exact op_in_seq
theorem ko_notIn (h : X.K = K) : OpR X (compareOp .NotIn) (rIn K true) := by subst h; exact op_notIn_seq
theorem ki_list {tg l : Expr} {tl : TE} (h : X.K = K) (p : PE X l tl) : PI X tg l (iList K tl) := by subst h; exact pi_list p
theorem ki_tup {tg l : Expr} {tl : TE} (h : X.K = K) (p : PE X l tl) : PI X tg l (iTup K tl) := by subst h; exact pi_tup p
end
/-- a def by its name, with its promise -/
def Cal (P : Program) (w : World) (K : PySem.W.Frag) (mg : Str → Option Value) (base : Heap) (k : Nat) (x : Str) (ps : List Str) (sp : Sp) : Prop :=
  ∃ f fd, FnOk P w K mg base CX0 k f fd ps sp ∧ mg x = some (.ref f) ∧ PySem.W.keepIn K (.ref f) = true ∧ Binds K fd ps []
theorem pe_cal {X : Cx} {k : Nat} {x : Str} {ps : List Str} {sp : Sp} {e : Expr} {es : List Expr} {t : TA} {p pos : Pos} (C : Cal X.prog X.w X.K X.mg X.base k x ps sp) (hr : Room k X.A) (hg : Gl X x) (ha : PA X (e :: es) t)
    (hdb : (x == ("__debug__" : Str)) = false := by decide) (he : starEach (e :: es) X.env = (false, eval e X.env) :: starEach es X.env := by rfl) (hpl : (backTo pos (starEach es X.env)).any (·.1) = false := by rfl) :
    PE X (.Call (.Name x p) (e :: es) [] pos) (tCall sp [] E0 t) := by
  obtain ⟨f, fd, G, m, kp, b⟩ := C
  exact pe_call G hr hg m kp b .nil pass0 ha hdb he hpl
/-- a body that makes a drawer closes it ahead of its return -/
def tShut (P : Program) (w : World) (t : TS) : TS := fun D σ H => t ⟨fun _ _ => False, fun v H' => (∃ c d a tm ds, v = .ref c ∧ H' c = some (.dK (canKvs d a tm)) ∧ H' d = some (.lst (ds.map V.int)) ∧ DeepOk ds ∧ d ≠ c ∧
    D.rt v (upd (upd H' c (.ext (phiC P w c d a))) d (.ext (phiD P w d)))), fun _ _ => False, fun _ _ => False⟩ σ H
theorem pss_shut {X : Cx} {st : List Stmt} {t : TS} (h : PSs X st t) : PSs X st (tShut X.prog X.w t) := by
  refine ⟨fun pins s σ H D I hw => ?_⟩
  refine thn (h.run pins s σ _ _ I hw) fun f s1 q => ?_
  cases f with
  | next => obtain ⟨_, _, _, z⟩ := q; exact z.elim
  | brk => obtain ⟨_, _, _, z⟩ := q; exact z.elim
  | cont => obtain ⟨_, _, _, z⟩ := q; exact z.elim
  | ret v =>
    obtain ⟨x, σ', H', I2, r, c, d, a, tm, ds, rfl, e1, e2, g, hcd, z⟩ := q
    exact ⟨_, σ', _, closed I2 e1 e2 g hcd, r, z⟩
theorem at_in {α : Type} {xs : List α} {r : Int} (h0 : 0 ≤ r) (h1 : r < (xs.length : Int)) : ∃ v, v ∈ xs ∧ atI xs r = some v ∧ xs[r.toNat]? = some v := by
  have hr : r.toNat < xs.length := by omega
  have er : ((r.toNat : Nat) : Int) = r := by omega
  have q := atI_nat (List.getElem?_eq_getElem hr)
  rw [er] at q
  exact ⟨xs[r.toNat], List.getElem_mem hr, q, List.getElem?_eq_getElem hr⟩
theorem ints_of : ∀ {ys : List V}, (∀ (k : Nat) (v : V), ys[k]? = some v → ∃ z, v = .int z) → ∃ cs : List Int, ys = cs.map V.int
  | [], _ => ⟨[], rfl⟩
  | y :: r, h => by
    obtain ⟨z, rfl⟩ := h 0 y rfl
    obtain ⟨cs, rfl⟩ := ints_of (ys := r) fun k v e => h (k + 1) v (by simpa using e)
    exact ⟨z :: cs, rfl⟩
theorem cut_all {xs : List V} {n : Nat} (h : xs.length ≤ n) : cutV xs none (some (n : Int)) = xs := by
  unfold cutV
  rw [HT.sIx_none, HT.sIx_nat, Nat.min_eq_right h]
  simp
/-! ### comprehensions whose items stay known while the new list grows -/
/-- all but lists is as it was -/
def Exl (H H' : Hp) : Prop := ∀ a o, (∀ xs, o ≠ .lst xs) → H a = some o → H' a = some o
theorem Exl.refl (H : Hp) : Exl H H := fun _ _ _ h => h
theorem Exl.of {H H' : Hp} (e : Ex H H') : Exl H H' := fun a o _ h => e a o h
theorem Exl.trans {H H1 H2 : Hp} (a : Exl H H1) (b : Exl H1 H2) : Exl H H2 := fun x o n h => b x o n (a x o n h)
theorem Exl.grow {H : Hp} {D : Addr} {xs ys : List V} (h : H D = some (.lst xs)) : Exl H (upd H D (.lst ys)) := fun a o n e => by
  rw [upd_ne (ne_of e h (n xs))]
  exact e
theorem nl_tup {ds : List PyData} (h : hasList (.tuple ds) = false) : hasListAll ds = false := by simpa [hasList] using h
theorem nl_dic {ds : List (PyData × PyData)} (h : hasList (.dict ds) = false) : hasListKv ds = false := by simpa [hasList] using h
theorem nl_hd {d : PyData} {ds : List PyData} (h : hasListAll (d :: ds) = false) : hasList d = false := by simp only [hasListAll, Bool.or_eq_false_iff] at h; exact h.1
theorem nl_tl {d : PyData} {ds : List PyData} (h : hasListAll (d :: ds) = false) : hasListAll ds = false := by simp only [hasListAll, Bool.or_eq_false_iff] at h; exact h.2
theorem nk_hd {k d : PyData} {ds : List (PyData × PyData)} (h : hasListKv ((k, d) :: ds) = false) : hasList d = false := by simp only [hasListKv, Bool.or_eq_false_iff] at h; exact h.1
theorem nk_tl {k d : PyData} {ds : List (PyData × PyData)} (h : hasListKv ((k, d) :: ds) = false) : hasListKv ds = false := by simp only [hasListKv, Bool.or_eq_false_iff] at h; exact h.2
theorem nl_lst {ds : List PyData} {p : Prop} (h : hasList (.list ds) = false) : p := by simp [hasList] at h
theorem tup_nolst {xs : List V} : ∀ ys, HO.tup xs ≠ .lst ys := fun _ y => nomatch y
theorem dK_nolst {xs : List (Key × V)} : ∀ ys, HO.dK xs ≠ .lst ys := fun _ y => nomatch y
theorem yesT {σ : L2.St} {H : Hp} {A B : Hp → Prop} (h : A H) : tYes σ H (fun b H3 => if b = true then A H3 else B H3) := by
  show (if true = true then A H else B H)
  rw [if_pos rfl]
  exact h
section
variable {H H' : Hp}
mutual
theorem Dv.exl (e : Exl H H') : ∀ {v : V} {d : PyData}, Dv H v d → (hasList d = false → Dv H' v d)
  | _, _, .non => fun _ => .non
  | _, _, .bl b => fun _ => .bl b
  | _, _, .int i => fun _ => .int i
  | _, _, .str x => fun _ => .str x
  | _, _, .lst _ _ => fun z => nl_lst z
  | _, _, .tup h t => fun z => .tup (e _ _ tup_nolst h) (DvAll.exl e t (nl_tup z))
  | _, _, .dic h t => fun z => .dic (e _ _ dK_nolst h) (DvKv.exl e t (nl_dic z))
theorem DvAll.exl (e : Exl H H') : ∀ {v : List V} {d : List PyData}, DvAll H v d → (hasListAll d = false → DvAll H' v d)
  | _, _, .nil => fun _ => .nil
  | _, _, .cons a b => fun z => .cons (Dv.exl e a (nl_hd z)) (DvAll.exl e b (nl_tl z))
theorem DvKv.exl (e : Exl H H') : ∀ {v : List (Key × V)} {d : List (PyData × PyData)}, DvKv H v d → (hasListKv d = false → DvKv H' v d)
  | _, _, .nil => fun _ => .nil
  | _, _, .cons a b => fun z => .cons (Dv.exl e a (nk_hd z)) (DvKv.exl e b (nk_tl z))
end
end
/-- an item's value is told by the item's place: what M says of it holds on while other lists change -/
def Gives (te : TE) (σ : L2.St) (H1 : Hp) (M : V → Hp → Prop) : Prop := ∀ H', Ex H1 H' → ∀ Q : VK, (∀ v H2, Ex H' H2 → M v H2 → Q v H2) → te σ H' Q
section
variable {K : PySem.W.Frag} {a : Addr} {xs : List V} {te : TE} {vs : List Nat} {σ : L2.St} {H1 : Hp} {D : Addr} {Qd : Hp → Prop} {j : Nat}
theorem made_turn {i : Nat} {M : Nat → V → Hp → Prop} {σ2 : L2.St} {H' : Hp} {ys : List V} (hD : H1 D = none) (st : ∀ i v G G', Ex H1 G → Ex H1 G' → Exl G G' → M i v G → M i v G') (e : Ex H1 H') (hy : H' D = some (.lst ys)) (hl : ys.length = i) (hi : i < 100000)
    (hm : ∀ (k : Nat) (v : V), ys[k]? = some v → M k v H') (he : Gives te σ2 H1 (M i)) :
    te σ2 H' fun y H4 => ∃ acc, H4 D = some (.lst acc) ∧ acc.length < sizeLine ∧ ∃ zs : List V, zs.length = i + 1 ∧ Ex H1 (upd H4 D (.lst (acc ++ [y]))) ∧ upd H4 D (.lst (acc ++ [y])) D = some (.lst zs) ∧ ∀ (k : Nat) (v : V), zs[k]? = some v → M k v (upd H4 D (.lst (acc ++ [y]))) := by
  refine he H' e _ fun v H2 e2 m => ⟨ys, e2 _ _ hy, by rw [hl]; exact Evl.sz_lt hi, ys ++ [v], by simp [hl], Evl.Ex.mut (e.trans e2) hD, upd_same, fun k u hk => ?_⟩
  have g : Exl H2 (upd H2 D (.lst (ys ++ [v]))) := Exl.grow (e2 _ _ hy)
  have e3 : Ex H1 (upd H2 D (.lst (ys ++ [v]))) := Evl.Ex.mut (e.trans e2) hD
  by_cases hk2 : k < ys.length
  · rw [List.getElem?_append_left hk2] at hk
    exact st k u H' _ e e3 ((Exl.of e2).trans g) (hm k u hk)
  · have hz := (List.getElem?_eq_some_iff.mp hk).1
    have ek : k = i := by simp at hz; omega
    subst ek
    rw [List.getElem?_append_right (by omega), hl] at hk
    simp at hk
    subst hk
    exact st k v H2 _ (e.trans e2) e3 g m
/-- [e for x in a list] -/
theorem made_list (M : Nat → V → Hp → Prop) (hD : H1 D = none) (hx : SqL K H1 a xs) (hn : xs.length < 100000) (st : ∀ i v G G', Ex H1 G → Ex H1 G' → Exl G G' → M i v G → M i v G')
    (hw : ∀ x, wipe ((wipe σ vs).set j (some x)) vs = wipe σ vs) (he : ∀ i x, xs[i]? = some x → Gives te ((wipe σ vs).set j (some x)) H1 (M i))
    (hd : ∀ (ys : List V) H', ys.length = xs.length → Ex H1 H' → H' D = some (.lst ys) → (∀ (k : Nat) (v : V), ys[k]? = some v → M k v H') → Qd H') :
    ∃ W : Nat → Nat → Hp → Prop, (∃ m, W 0 m (upd H1 D (.lst []))) ∧ ∀ i m H, W i m H →
      ((Itl K a).stop i H ∧ Qd H) ∨ ((Itl K a).go i H ∧ ∃ Nx : Hp → Prop, (∀ H', Nx H' → ∃ m', m' < m ∧ W (i + 1) m' H') ∧ ∀ x H', (Itl K a).yld i H x H' → gName j x (wipe σ vs) H' fun σ2 H2 => wipe σ2 vs = wipe σ vs ∧ tYes σ2 H2 fun b H3 =>
        if b = true then te σ2 H3 fun y H4 => ∃ acc, H4 D = some (.lst acc) ∧ acc.length < sizeLine ∧ Nx (upd H4 D (.lst (acc ++ [y]))) else Nx H3) :=
  lc_list (xs := xs) (fun i H' => ∃ zs : List V, zs.length = i ∧ Ex H1 H' ∧ H' D = some (.lst zs) ∧ ∀ (k : Nat) (v : V), zs[k]? = some v → M k v H') ⟨[], rfl, Evl.Ex.new hD, upd_same, fun k v z => by simp at z⟩
    (fun i H' _ ⟨_, _, e, _⟩ => Evl.ex_l e hx) (fun i x H' hi ⟨zs, hl, e, hy, hm⟩ => by
      have lt := (List.getElem?_eq_some_iff.mp hi).1
      exact ⟨hw x, yesT (made_turn hD st e hy hl (by omega) hm (he i x hi))⟩)
    (fun H' ⟨zs, hl, e, hy, hm⟩ => hd zs H' hl e hy hm)
/-- [e for x in a tuple] -/
theorem made_tup (M : Nat → V → Hp → Prop) (hD : H1 D = none) (hx : SqT K H1 a xs) (hn : xs.length < 100000) (st : ∀ i v G G', Ex H1 G → Ex H1 G' → Exl G G' → M i v G → M i v G')
    (hw : ∀ x, wipe ((wipe σ vs).set j (some x)) vs = wipe σ vs) (he : ∀ i x, xs[i]? = some x → Gives te ((wipe σ vs).set j (some x)) H1 (M i))
    (hd : ∀ (ys : List V) H', ys.length = xs.length → Ex H1 H' → H' D = some (.lst ys) → (∀ (k : Nat) (v : V), ys[k]? = some v → M k v H') → Qd H') :
    ∃ W : Nat → Nat → Hp → Prop, (∃ m, W 0 m (upd H1 D (.lst []))) ∧ ∀ i m H, W i m H →
      ((Itt K a).stop i H ∧ Qd H) ∨ ((Itt K a).go i H ∧ ∃ Nx : Hp → Prop, (∀ H', Nx H' → ∃ m', m' < m ∧ W (i + 1) m' H') ∧ ∀ x H', (Itt K a).yld i H x H' → gName j x (wipe σ vs) H' fun σ2 H2 => wipe σ2 vs = wipe σ vs ∧ tYes σ2 H2 fun b H3 =>
        if b = true then te σ2 H3 fun y H4 => ∃ acc, H4 D = some (.lst acc) ∧ acc.length < sizeLine ∧ Nx (upd H4 D (.lst (acc ++ [y]))) else Nx H3) :=
  lc_tup (xs := xs) (fun i H' => ∃ zs : List V, zs.length = i ∧ Ex H1 H' ∧ H' D = some (.lst zs) ∧ ∀ (k : Nat) (v : V), zs[k]? = some v → M k v H') ⟨[], rfl, Evl.Ex.new hD, upd_same, fun k v z => by simp at z⟩
    (fun i H' _ ⟨_, _, e, _⟩ => Evl.ex_t e hx) (fun i x H' hi ⟨zs, hl, e, hy, hm⟩ => by
      have lt := (List.getElem?_eq_some_iff.mp hi).1
      exact ⟨hw x, yesT (made_turn hD st e hy hl (by omega) hm (he i x hi))⟩)
    (fun H' ⟨zs, hl, e, hy, hm⟩ => hd zs H' hl e hy hm)
/-- [e for k in range(n)] -/
theorem made_range {n : Nat} (M : Nat → V → Hp → Prop) (hD : H1 D = none) (hn : n < 100000) (st : ∀ i v G G', Ex H1 G → Ex H1 G' → Exl G G' → M i v G → M i v G')
    (hw : ∀ x, wipe ((wipe σ vs).set j (some x)) vs = wipe σ vs) (he : ∀ i : Nat, i < n → Gives te ((wipe σ vs).set j (some (.int (i : Int)))) H1 (M i))
    (hd : ∀ (ys : List V) H', ys.length = n → Ex H1 H' → H' D = some (.lst ys) → (∀ (k : Nat) (v : V), ys[k]? = some v → M k v H') → Qd H') :
    ∃ W : Nat → Nat → Hp → Prop, (∃ m, W 0 m (upd H1 D (.lst []))) ∧ ∀ i m H, W i m H →
      ((Itr 0 n).stop i H ∧ Qd H) ∨ ((Itr 0 n).go i H ∧ ∃ Nx : Hp → Prop, (∀ H', Nx H' → ∃ m', m' < m ∧ W (i + 1) m' H') ∧ ∀ x H', (Itr 0 n).yld i H x H' → gName j x (wipe σ vs) H' fun σ2 H2 => wipe σ2 vs = wipe σ vs ∧ tYes σ2 H2 fun b H3 =>
        if b = true then te σ2 H3 fun y H4 => ∃ acc, H4 D = some (.lst acc) ∧ acc.length < sizeLine ∧ Nx (upd H4 D (.lst (acc ++ [y]))) else Nx H3) :=
  lc_range (lo := 0) (n := n) (fun i H' => ∃ zs : List V, zs.length = i ∧ Ex H1 H' ∧ H' D = some (.lst zs) ∧ ∀ (k : Nat) (v : V), zs[k]? = some v → M k v H') ⟨[], rfl, Evl.Ex.new hD, upd_same, fun k v z => by simp at z⟩
    (fun i H' hi ⟨zs, hl, e, hy, hm⟩ => by
      have g := made_turn hD st e hy hl (by omega) hm (he i hi)
      have e0 : (0 : Int) + (i : Int) = (i : Int) := Int.zero_add _
      show wipe ((wipe σ vs).set j (some (.int (0 + (i : Int))))) vs = wipe σ vs ∧ tYes ((wipe σ vs).set j (some (.int (0 + (i : Int))))) H' _
      rw [e0]
      exact ⟨hw _, yesT g⟩)
    (fun H' ⟨zs, hl, e, hy, hm⟩ => hd zs H' hl e hy hm)
end
/-! ### tuples cut and joined: some tuple of that content, new or old -/
section
variable {K : PySem.W.Frag} {H : Hp} {a b : Addr} {xs ys : List V} {Q : VK}
theorem cut_whole {lo hi : Option Int} (h : HT.sIx xs.length 0 lo = 0 ∧ HT.sIx xs.length xs.length hi = xs.length) : cutV xs lo hi = xs := by
  unfold cutV
  rw [h.1, h.2]
  simp
theorem sl_at {lo hi : Option Int} (h : H a = some (.tup xs)) (k : ∀ b H', Ex H H' → H' b = some (.tup (cutV xs lo hi)) → Q (.ref b) H') : rSlA K (.ref a) lo hi H Q :=
  ⟨a, xs, rfl, SqT.of h, fun w => k a H (Evl.Ex.refl H) (by rw [cut_whole w]; exact h), fun _ p hp => k p _ (Evl.Ex.new hp) upd_same⟩
theorem cat_at (h1 : H a = some (.tup xs)) (h2 : H b = some (.tup ys)) (hl : xs.length + ys.length ≤ 100000) (k : ∀ p H', Ex H H' → H' p = some (.tup (xs ++ ys)) → Q (.ref p) H') : rCatA K (.ref a) (.ref b) H Q :=
  ⟨a, b, xs, ys, rfl, rfl, SqT.of h1, SqT.of h2, Evl.sz_of hl, fun z => k b H (Evl.Ex.refl H) (by subst z; exact h2), fun _ z => k a H (Evl.Ex.refl H) (by subst z; rw [List.append_nil]; exact h1), fun _ _ p hp => k p _ (Evl.Ex.new hp) upd_same⟩
end
theorem cut_from {xs : List V} {k : Nat} : cutV xs (some (k : Int)) none = xs.drop k := by
  unfold cutV
  rw [HT.sIx_none, HT.sIx_nat]
  by_cases h : k ≤ xs.length
  · rw [Nat.min_eq_left h, List.take_of_length_le (by simp)]
  · rw [Nat.min_eq_right (by omega), List.drop_of_length_le (Nat.le_refl _), List.drop_of_length_le (by omega)]
    simp
theorem cut_to {xs : List V} {k : Nat} : cutV xs none (some (k : Int)) = xs.take k := by
  unfold cutV
  rw [HT.sIx_none, HT.sIx_nat]
  by_cases h : k ≤ xs.length
  · rw [Nat.min_eq_left h]
    simp
  · rw [Nat.min_eq_right (by omega)]
    simp [List.take_of_length_le (show xs.length ≤ k by omega)]
/-! ### [x for x in a tuple if ..] -/
section
variable {K : PySem.W.Frag} {a : Addr} {xs : List V} {tt : TT} {te : TE} {vs : List Nat} {σ : L2.St} {H1 : Hp} {D : Addr} {Qd : Hp → Prop} {j : Nat}
theorem filt_tup (f : V → Bool) (hD : H1 D = none) (hx : SqT K H1 a xs) (hn : xs.length < 100000) (hw : ∀ x, wipe ((wipe σ vs).set j (some x)) vs = wipe σ vs)
    (ht : ∀ x H', x ∈ xs → Ex H1 H' → ∀ Q : Bool → Hp → Prop, Q (f x) H' → tt ((wipe σ vs).set j (some x)) H' Q) (he : ∀ x H', Ex H1 H' → ∀ Q : VK, Q x H' → te ((wipe σ vs).set j (some x)) H' Q)
    (hd : ∀ H', Ex H1 H' → H' D = some (.lst (xs.filter f)) → Qd H') :
    ∃ W : Nat → Nat → Hp → Prop, (∃ m, W 0 m (upd H1 D (.lst []))) ∧ ∀ i m H, W i m H →
      ((Itt K a).stop i H ∧ Qd H) ∨ ((Itt K a).go i H ∧ ∃ Nx : Hp → Prop, (∀ H', Nx H' → ∃ m', m' < m ∧ W (i + 1) m' H') ∧ ∀ x H', (Itt K a).yld i H x H' → gName j x (wipe σ vs) H' fun σ2 H2 => wipe σ2 vs = wipe σ vs ∧ tt σ2 H2 fun b H3 =>
        if b = true then te σ2 H3 fun y H4 => ∃ acc, H4 D = some (.lst acc) ∧ acc.length < sizeLine ∧ Nx (upd H4 D (.lst (acc ++ [y]))) else Nx H3) := by
  refine lc_tup (xs := xs) (fun i H' => Ex H1 H' ∧ H' D = some (.lst ((xs.take i).filter f)) ∧ i ≤ xs.length) ⟨Evl.Ex.new hD, by simp [upd_same], Nat.zero_le _⟩ (fun i H' _ h => Evl.ex_t h.1 hx) ?_ ?_
  · rintro i x H' hi ⟨e, hy, hle⟩
    have lt := (List.getElem?_eq_some_iff.mp hi).1
    have hxm : x ∈ xs := List.mem_of_getElem? hi
    have step : xs.take (i + 1) = xs.take i ++ [x] := by
      rw [List.take_succ, hi]
      rfl
    refine ⟨hw x, ht x H' hxm e _ ?_⟩
    cases hf : f x with
    | true =>
      refine iteT (he x H' e _ ⟨_, hy, ?_, Evl.Ex.mut e hD, ?_, lt⟩)
      · refine Nat.lt_of_le_of_lt (List.length_filter_le _ _) (Evl.sz_lt ?_)
        rw [List.length_take]
        omega
      · rw [upd_same, step, List.filter_append]
        simp [hf]
    | false =>
      refine iteF ⟨e, ?_, lt⟩
      rw [hy, step, List.filter_append]
      simp [hf]
  · rintro H' ⟨e, hy, _⟩
    rw [List.take_of_length_le (Nat.le_refl _)] at hy
    exact hd H' e hy
end
end Lr

namespace Lr
open PySem L2
def topS (i : Nat) : Stmt := PySem.Challenge.pw_lanerules_k06_words_judged.main.body.getD i (.Pass ⟨0, 0, 0, 0⟩)
abbrev sRoll : Stmt := topS 7
abbrev nRoll : List Str := ["_law_can", "_law_many", "_law_rest", "_law_times", "_law_cells", "_law_seed"]
theorem scRoll : FnScope nRoll ["_law_can", "_law_many"] (defScope sRoll) :=
  ⟨rfl, rfl, rfl, by decide +kernel, rfl, by decide +kernel, by decide +kernel⟩
section
variable {H : Hp} {c d a : Addr} {t t' : Int}
theorem val_deep : valV (canKvs d a t) (Sum.inr "deep" : Key) = some (.ref d) := by
  simp [valV, canKvs]
theorem val_all : valV (canKvs d a t) (Sum.inr "all" : Key) = some (.ref a) := by
  have e : ¬ ((Sum.inr "deep" : Key) = (Sum.inr "all" : Key)) := by decide
  simp [valV, canKvs, List.find?, e]
theorem val_times : valV (canKvs d a t) (Sum.inr "times" : Key) = some (.int t) := by
  have e : ¬ ((Sum.inr "deep" : Key) = (Sum.inr "times" : Key)) := by decide
  have e2 : ¬ ((Sum.inr "all" : Key) = (Sum.inr "times" : Key)) := by decide
  simp [valV, canKvs, List.find?, e, e2]
theorem put_times : putK (canKvs d a t) (Sum.inr "times" : Key) (.int t') = canKvs d a t' := by
  have e : ¬ ((Sum.inr "deep" : Key) = (Sum.inr "times" : Key)) := by decide
  have e2 : ¬ ((Sum.inr "all" : Key) = (Sum.inr "times" : Key)) := by decide
  simp [putK, canKvs, e, e2]
theorem merge_can : mergeK [] (canKvs d a t) = canKvs d a t := by
  have e : ¬ ((Sum.inr "deep" : Key) = (Sum.inr "times" : Key)) := by decide
  have e1 : ¬ ((Sum.inr "deep" : Key) = (Sum.inr "all" : Key)) := by decide
  have e2 : ¬ ((Sum.inr "all" : Key) = (Sum.inr "times" : Key)) := by decide
  simp [mergeK, putK, canKvs, e, e1, e2]
theorem get_deep (h : H c = some (.dK (canKvs d a t))) : DGet H c (.str "deep") (some (.ref d)) := by
  have g := DGet.k (k := Sum.inr "deep") h
  rw [val_deep] at g
  exact g
theorem get_all (h : H c = some (.dK (canKvs d a t))) : DGet H c (.str "all") (some (.ref a)) := by
  have g := DGet.k (k := Sum.inr "all") h
  rw [val_all] at g
  exact g
theorem get_times (h : H c = some (.dK (canKvs d a t))) : DGet H c (.str "times") (some (.int t)) := by
  have g := DGet.k (k := Sum.inr "times") h
  rw [val_times] at g
  exact g
theorem put_time (h : H c = some (.dK (canKvs d a t))) : DPut H c (.str "times") (.int t') (upd H c (.dK (canKvs d a t'))) := by
  have g := DPut.k (k := Sum.inr "times") (v := .int t') h (by show 3 < sizeLine; decide)
  rw [put_times] at g
  exact g
end
/-- data: a list of ints -/
theorem dp_ints (K : PySem.W.Frag) (H : Hp) : ∀ ds : List Int, DpAll K H (ds.map V.int) (ds.map PyData.int)
  | [] => .nil
  | x :: r => .cons (.int x) (dp_ints K H r)
theorem lay_ints : ∀ ds : List Int, PyData.canLayAll0 (ds.map PyData.int) = true
  | [] => by simp [PyData.canLayAll0]
  | x :: r => by simp [PyData.canLayAll0, PyData.canLay0, lay_ints r]
theorem depth_ints : ∀ ds : List Int, PyData.depthAll (ds.map PyData.int) ≤ 1
  | [] => by simp [PyData.depthAll]
  | x :: r => by
    have := depth_ints r
    simp [PyData.depthAll, PyData.depth]
    omega
theorem shaped_ints (ds : List Int) : SeqAt.shaped (.list (ds.map PyData.int)) = true := by
  have h1 := depth_ints ds
  have h2 : (PyData.list (ds.map PyData.int)).depth ≤ 64 := by
    simp only [PyData.depth]
    omega
  have h3 : (PyData.list (ds.map PyData.int)).canLay0 = true := by
    simp only [PyData.canLay0]
    exact lay_ints ds
  unfold SeqAt.shaped
  rw [h3, decide_eq_true h2]
  rfl
theorem eqv_nil (ds : List Int) : PyData.eqv (.list (ds.map .int)) (.list []) = ds.isEmpty := by
  cases ds <;> simp [PyData.eqv, PyData.eqvAll]
section
variable {P : Program} {w : World} {K : PySem.W.Frag} {mg : Str → Option Value} {base : Heap}
def spRoll (P : Program) (w : World) : Sp := fun vs H Q _ => ∃ c m, vs = [.ref c, .int m] ∧ Can P w H c ∧ 0 < m ∧ m < 1000000 ∧ ∀ r H', Ex H H' → 0 ≤ r → r < m → Q (.int r) H'
theorem ok_roll {f : Addr} {fd : FuncData} (F : Fun K "_law_roll" "_law_roll" sRoll f fd) (ml : mg "len" = none) : FnOk P w K mg base CX0 1 f fd ["_law_can", "_law_many"] (spRoll P w) := by
  refine F.ok scRoll (fun vs H Q E h => ?_) (fun cdv A outer s H vs Q E hr h => ?_)
  · obtain ⟨c, m, rfl, _⟩ := h
    rfl
  obtain ⟨c, m, rfl, C, hm, hm2, k⟩ := h
  have hu := hu_of hr
  refine ⟨_, pss_drawer (pss_cons (ps_while PassesOwn.never (pt_cmpR (op_neD hr.units) (pe_dget hu (pv 0) pe_str (fun _ _ => rfl)) (pe_lst pa_nil) (nomark _))
      (pss_cons (ps_set (i := 2) scRoll.nd rfl (.inl rfl) (pe_bm PySem.F.plainAttrs_list PySem.F.slot_list_pop PySem.F.type_list_pop mt_popAt (pe_dget hu (pv 0) pe_str (fun _ _ => rfl)) (pa_cons pe_int pa_nil)))
      (pss_one (ps_if (pt_cmpR op_gt (pv 2) pe_int (nomark _))
        (pss_cons (ps_expr (pe_bm PySem.F.plainAttrs_list PySem.F.slot_list_insert PySem.F.type_list_insert mt_insert (pe_dget hu (pv 0) pe_str (fun _ _ => rfl)) (pa_cons pe_int (pa_cons (pe_op op_fdivW (pv 2) (pv 1)) pa_nil))))
        (pss_one (ps_ret (pe_op op_modN (pv 2) (pv 1))))) pss_nil))))
    (pss_cons (ps_par rfl scRoll.nd (i := 3) (j := 4) rfl rfl (by decide) rfl rfl (pa_cons (pe_dget hu (pv 0) pe_str (fun _ _ => rfl)) (pa_cons (pe_dget hu (pv 0) pe_str (fun _ _ => rfl)) pa_nil)) rfl)
    (pss_cons (ps_dput hu (pv 0) pe_str (pe_op op_add (pv 3) pe_int) rfl)
    (pss_cons (ps_set (i := 5) scRoll.nd rfl (.inl rfl) (pe_op op_add (pe_op op_modN (pe_ix ix_list (pv 4) (pe_op op_modN (pv 3) (pe_callB call_len_seq rfl ml PySem.boot_len (pa_cons (pv 4) pa_nil))) (fun _ _ => rfl)) pe_int) (pe_op op_mul pe_int (pe_op op_add (pv 3) pe_int))))
    (pss_cons (ps_set (i := 5) scRoll.nd rfl (.inl rfl) (pe_op op_modN (pe_op op_mul (pe_op op_modN (pv 5) pe_int) (pe_op op_add (pe_op op_modN (pv 5) pe_int) pe_int)) pe_int))
    (pss_cons (ps_set (i := 5) scRoll.nd rfl (.inl rfl) (pe_op op_modN (pe_op op_mul (pe_op op_modN (pe_op op_add (pe_op op_mul (pv 5) (pv 5)) (pe_op op_mul pe_int (pv 3))) pe_int) pe_int) pe_int))
    (pss_one (ps_ret (pe_op op_modN (pe_op op_fdivW (pv 5) pe_int) (pv 1)))))))))), ?_⟩
  obtain ⟨d, a, cs, h1, h2, h3, h4, h5, hcd⟩ := C
  refine ⟨c, d, a, h1, h2, hcd, fun tm ds g => ?_⟩
  have nac : a ≠ c := ne_of h3 h1 (by intro z; cases z)
  have nad : a ≠ d := ne_of h3 h2 (by intro z; cases z)
  -- what stays while the drawer is open
  have back : ∀ H1 : Hp, (∀ b o, b ≠ c → b ≠ d → H b = some o → H1 b = some o) → Ex H (upd (upd H1 c (.ext (phiC P w c d a))) d (.ext (phiD P w d))) := fun H1 o b u e => by
    by_cases hb : b = d
    · subst hb
      rw [upd_same, ← h2]
      exact e
    · rw [upd_ne hb]
      by_cases hc : b = c
      · subst hc
        rw [upd_same, ← h1]
        exact e
      · rw [upd_ne hc]
        exact o b u hc hb e
  -- while can['deep'] != []
  refine ⟨fun n σ H' => ∃ ds rv, n = ds.length ∧ σ = [some (.ref c), some (.int m), rv, none, none, none] ∧ H' c = some (.dK (canKvs d a tm)) ∧ H' d = some (.lst (ds.map V.int)) ∧ DeepOk ds ∧
      ∀ b o, b ≠ c → b ≠ d → H b = some o → H' b = some o,
    ⟨_, ds, none, rfl, rfl, by rw [upd_ne hcd.symm, upd_same], upd_same, g, fun b o n1 n2 e => by rw [upd_ne n2, upd_ne n1]; exact e⟩, ?_⟩
  rintro n σ H' ⟨ds, rv, rfl, rfl, e1, e2, g, o⟩
  refine ⟨_, rfl, c, _, rfl, get_deep e1, (by show 0 ≤ sizeLine; decide), fun p hp => ?_⟩
  have npc : c ≠ p := ne_of_none e1 hp
  have npd : d ≠ p := ne_of_none e2 hp
  have q1 : upd H' p (.lst []) c = some (.dK (canKvs d a tm)) := by rw [upd_ne npc]; exact e1
  have q2 : upd H' p (.lst []) d = some (.lst (ds.map V.int)) := by rw [upd_ne npd]; exact e2
  have o1 : ∀ b o, b ≠ c → b ≠ d → H b = some o → upd H' p (.lst []) b = some o := fun b u n1 n2 e => by
    rw [upd_ne (ne_of_none (o b u n1 n2 e) hp)]
    exact o b u n1 n2 e
  have q3 : upd H' p (.lst []) p = some (.lst []) := upd_same
  generalize upd H' p (.lst []) = G at q1 q2 q3 o1 ⊢
  refine ⟨.list (ds.map .int), .list [], .lst (SqL.of q2) (dp_ints _ _ ds), .lst (SqL.of q3) .nil, shaped_ints ds, shaped_ints [], _, rfl, ?_⟩
  rw [eqv_nil]
  cases ds with
  | cons x r =>
    refine iteT ⟨_, fun σ' H' h => h, ?_⟩
    have gx : 0 ≤ x := g.1 x (by simp)
    have gr : DeepOk r := ⟨fun y hy => g.1 y (by simp [hy]), by have := g.2; simp at this; omega⟩
    -- rest = can['deep'].pop(0)
    refine ⟨_, rfl, c, _, rfl, get_deep q1, .inl ⟨rfl, _, SqL.of q2⟩, d, _, 0, 0, .int x, rfl, rfl, q2, by decide, by decide, by simp [seqIndex?], rfl, ?_⟩
    have p1 : upd G d (.lst (r.map V.int)) c = some (.dK (canKvs d a tm)) := by rw [upd_ne hcd.symm]; exact q1
    have p2 : upd G d (.lst (r.map V.int)) d = some (.lst (r.map V.int)) := upd_same
    have p3 : ∀ b o, b ≠ c → b ≠ d → H b = some o → upd G d (.lst (r.map V.int)) b = some o := fun b u n1 n2 e => by rw [upd_ne n2]; exact o1 b u n1 n2 e
    have eG : (HO.lst ((List.map V.int (x :: r)).eraseIdx 0)) = .lst (r.map V.int) := rfl
    rw [eG]
    generalize upd G d (.lst (r.map V.int)) = G2 at p1 p2 p3 ⊢
    -- if rest > 0
    refine ⟨_, rfl, _, _, rfl, rfl, _, rfl, ?_⟩
    refine ite2 (fun _ => ?_) (fun _ => ?_)
    · refine ⟨_, rfl, c, _, rfl, get_deep p1, .inl ⟨rfl, _, SqL.of p2⟩, _, rfl, _, rfl, _, _, rfl, rfl, wide_div hm (b := 20) (by omega) (by decide) (by decide), d, _, 0, _, rfl, rfl, p2, ?_, by decide, by decide, ?_⟩
      · rw [List.length_map]
        exact Nat.lt_of_le_of_lt gr.2 (by decide)
      refine ⟨_, rfl, _, rfl, _, _, rfl, rfl, by omega, tm, (x / m) :: r, ?_, upd_same, ?_, k _ _ (back _ ?_) (Int.fmod_nonneg_of_pos _ hm) (Int.fmod_lt_of_pos _ hm)⟩
      · rw [upd_ne hcd.symm]; exact p1
      · refine ⟨fun y hy => ?_, by have := g.2; simpa using this⟩
        rcases List.mem_cons.mp hy with rfl | hy
        · exact Int.ediv_nonneg gx (by omega)
        · exact gr.1 y hy
      · intro b u n1 n2 e
        rw [upd_ne n2]
        exact p3 b u n1 n2 e
    · exact ⟨_, by simp, r, _, rfl, rfl, p1, p2, gr, p3⟩
  | nil =>
    refine iteF ?_
    -- times, cells = can['times'], can['all']
    refine ⟨_, rfl, c, _, rfl, get_times q1, _, rfl, c, _, rfl, get_all q1, _, _, rfl, ?_⟩
    -- can['times'] = times + 1
    refine ⟨_, rfl, _, _, rfl, rfl, _, rfl, c, _, rfl, put_time q1, ?_⟩
    have p1 : upd G c (.dK (canKvs d a (tm + 1))) c = some (.dK (canKvs d a (tm + 1))) := upd_same
    have p2 : upd G c (.dK (canKvs d a (tm + 1))) d = some (.lst (([] : List Int).map V.int)) := by rw [upd_ne hcd]; exact q2
    have p3 : ∀ b o, b ≠ c → b ≠ d → H b = some o → upd G c (.dK (canKvs d a (tm + 1))) b = some o := fun b u n1 n2 e => by rw [upd_ne n1]; exact o1 b u n1 n2 e
    generalize upd G c (.dK (canKvs d a (tm + 1))) = G2 at p1 p2 p3 ⊢
    have pa : SqL K G2 a (cs.map V.int) := SqL.of (p3 a _ nac nad h3)
    have hl : 0 < cs.length := List.length_pos_iff.mpr h4
    have hl0 : ((cs.map V.int).length : Int) ≠ 0 := by rw [List.length_map]; omega
    obtain ⟨z, hz⟩ : ∃ z, atI (cs.map V.int) (tm.fmod ((cs.map V.int).length : Int)) = some (.int z) := by
      have b0 := Int.fmod_nonneg_of_pos tm (b := ((cs.map V.int).length : Int)) (by rw [List.length_map]; omega)
      have b1 := Int.fmod_lt_of_pos tm (b := ((cs.map V.int).length : Int)) (by rw [List.length_map]; omega)
      generalize tm.fmod ((cs.map V.int).length : Int) = j at b0 b1 ⊢
      rw [List.length_map] at b1
      have hj : j.toNat < cs.length := by omega
      have ej : j = ((j.toNat : Nat) : Int) := by omega
      rw [ej]
      exact ⟨cs[j.toNat], atI_nat (by rw [List.getElem?_map, List.getElem?_eq_getElem hj]; rfl)⟩
    -- the three seeds
    have nz1 : (2971215073 : Int) ≠ 0 := by decide
    have nz2 : (63029 : Int) ≠ 0 := by decide
    have big : ∀ y : Int, 0 ≤ y.fmod 2971215073 ∧ y.fmod 2971215073 < 2971215073 := fun y => ⟨Int.fmod_nonneg_of_pos _ (by decide), Int.fmod_lt_of_pos _ (by decide)⟩
    have mulOk : ∀ y z : Int, CMul (y.fmod 2971215073) z := fun y z => .inl (by have := big y; omega)
    refine ⟨_, rfl, _, rfl, _, rfl, a, _, rfl, .inl pa, _, _, rfl, rfl, hl0, a, _, _, _, rfl, rfl, pa, hz, _, _, rfl, rfl, nz1, _, rfl, _, _, rfl, rfl, _, _, rfl, rfl, .inl (by decide), _, _, rfl, rfl, ?_⟩
    refine ⟨_, rfl, _, _, rfl, rfl, nz1, _, rfl, _, _, rfl, rfl, nz2, _, _, rfl, rfl, _, _, rfl, rfl, mulOk _ _, _, _, rfl, rfl, nz1, ?_⟩
    refine ⟨_, rfl, _, rfl, _, _, rfl, rfl, mulOk _ _, _, rfl, _, _, rfl, rfl, .inl (by decide), _, _, rfl, rfl, _, _, rfl, rfl, nz1, _, _, rfl, rfl, mulOk _ _, _, _, rfl, rfl, nz1, ?_⟩
    refine ⟨_, rfl, _, _, rfl, rfl, wide_div (by decide) (b := 20) (by decide) (by decide) (by decide), _, rfl, _, _, rfl, rfl, by omega, tm + 1, [], p1, p2, ⟨fun y hy => (nomatch hy), by decide⟩, ?_⟩
    exact k _ _ (back _ p3) (Int.fmod_nonneg_of_pos _ hm) (Int.fmod_lt_of_pos _ hm)
end
end Lr

namespace Lr
open PySem L2
abbrev sOpened : Stmt := topS 6
abbrev nOpened : List Str := ["_law_script", "_law_cells", "_law_cell"]
theorem scOpened : FnScope nOpened ["_law_script"] (defScope sOpened) :=
  ⟨rfl, rfl, rfl, by decide +kernel, rfl, by decide +kernel, by decide +kernel⟩
abbrev sOne : Stmt := topS 8
abbrev nOne : List Str := ["_law_can", "_law_items"]
theorem scOne : FnScope nOne ["_law_can", "_law_items"] (defScope sOne) :=
  ⟨rfl, rfl, rfl, by decide +kernel, rfl, by decide +kernel, by decide +kernel⟩
abbrev sMixed : Stmt := topS 9
abbrev nMixed : List Str := ["_law_can", "_law_many", "_law_rest", "_law_found"]
theorem scMixed : FnScope nMixed ["_law_can", "_law_many"] (defScope sMixed) :=
  ⟨rfl, rfl, rfl, by decide +kernel, rfl, by decide +kernel, by decide +kernel⟩
section
variable {P : Program} {w : World} {K : PySem.W.Frag} {mg : Str → Option Value} {base : Heap}
def spOne (P : Program) (w : World) : Sp := fun vs H Q _ => ∃ c l xs, vs = [.ref c, .ref l] ∧ Can P w H c ∧ H l = some (.lst xs) ∧ 0 < xs.length ∧ xs.length < 100000 ∧ ∀ v H', Ex H H' → v ∈ xs → Q v H'
theorem ok_one {f : Addr} {fd : FuncData} (F : Fun K "_law_one" "_law_one" sOne f fd) (T : Blt mg) (c_law_roll : Cal P w K mg base 1 "_law_roll" ["_law_can", "_law_many"] (spRoll P w)) :
    FnOk P w K mg base CX0 2 f fd ["_law_can", "_law_items"] (spOne P w) := by
  refine F.ok scOne (fun vs H Q E h => ?_) (fun cdv A outer s H vs Q E hr h => ?_)
  · obtain ⟨c, l, xs, rfl, _⟩ := h
    rfl
  obtain ⟨c, l, xs, rfl, C, hl, h0, h1, k⟩ := h
  refine ⟨_, (pss_one (ps_ret (pe_ix (kx_list (K := K) rfl) (pv 1) (pe_cal c_law_roll (hr.mono (by decide)) rfl (pa_cons (pv 0) (pa_cons (pe_callB (k_len (K := K) rfl) rfl T.len bt_len (pa_cons (pv 1) pa_nil)) pa_nil))) (fun _ _ => rfl)))), ?_⟩
  refine ⟨_, rfl, _, rfl, _, rfl, l, xs, rfl, .inl (SqL.of hl), c, _, rfl, C, by omega, by omega, fun r H' e r0 r1 => ?_⟩
  obtain ⟨v, hv, ha, _⟩ := at_in r0 r1
  exact ⟨l, xs, r, v, rfl, rfl, SqL.of (e _ _ hl), ha, k _ H' e hv⟩
def spOpened (P : Program) (w : World) (K : PySem.W.Frag) : Sp := fun vs H Q _ => ∃ (a : Addr) (ns : List Int), vs = [.ref a] ∧ SqL K H a (ns.map V.int) ∧ ns.length ≤ 63 ∧ ∀ c H', Ex H H' → Can P w H' c → Q (.ref c) H'
theorem ok_opened {f : Addr} {fd : FuncData} (F : Fun K "_law_opened" "_law_opened" sOpened f fd) (T : Blt mg) : FnOk P w K mg base CX0 1 f fd ["_law_script"] (spOpened P w K) := by
  refine F.ok scOpened (fun vs H Q E h => ?_) (fun cdv A outer s H vs Q E hr h => ?_)
  · obtain ⟨a, ns, rfl, _⟩ := h
    rfl
  obtain ⟨a, ns, rfl, hS, hlen, k⟩ := h
  refine ⟨_, pss_shut (pss_cons (ps_setLc (i := 1) (own := [("_law_cell", 2)]) (g := gName 2) (by rfl) scOpened.nd rfl rfl (sw_true rfl rfl rfl (by decide +kernel)) (ki_list (K := K) rfl (pe_slice (ks_list (K := K) rfl) (pv 0) po_none (po_some pe_int))) (blkOk_by (own := [("_law_cell", 2)]) (N := nOpened) (sc := defScope sOpened) (by decide +kernel)) (fun _ _ _ _ _ => (pg_name (i := 2) scOpened.nd rfl (Or.inl rfl))) (fun _ _ _ _ _ => pts_nil) (fun _ _ _ _ _ => (pe_callB call_abs rfl T.abs bt_abs (pa_cons (pv 2) pa_nil))))
    (pss_one (ps_ret (pe_disp (pps_cons pe_str (pe_lc (own := [("_law_cell", 2)]) (g := gName 2)  (by rfl) scOpened.nd (ki_list (K := K) rfl (pv 1)) (blkOk_by (own := [("_law_cell", 2)]) (N := nOpened) (sc := defScope sOpened) (by decide +kernel)) (fun _ _ _ _ _ => (pg_name (i := 2) scOpened.nd rfl (Or.inl rfl))) (fun _ _ _ _ _ => pts_one (pt_cmpR op_ge (pv 2) (pe_op op_pow pe_int pe_int) (nomark _))) (fun _ _ _ _ _ => (pv 2))) (pps_cons pe_str (pe_op op_cat (pv 1) (pe_op op_rep (pe_lst (pa_cons pe_int pa_nil)) (pe_callTy call_int1 rfl T.int bt_int (pa_cons (pe_cmpR (ko_eqD (K := K) rfl hr.units) (pv 1) (pe_lst pa_nil) (nomark _)) pa_nil)))) (pps_cons pe_str pe_int pps_nil))) (by rfl) (by rfl) (fun z => by cases z) (by decide))))), ?_⟩
  have c63 : cutV (ns.map V.int) none (some 63) = ns.map V.int := cut_all (n := 63) (by rw [List.length_map]; exact hlen)
  -- cells = [abs(cell) for cell in script[:63]]
  refine ⟨_, rfl, _, rfl, a, _, rfl, hS, fun p hp => ?_⟩
  rw [c63]
  refine ⟨p, rfl, ⟨_, SqL.of upd_same⟩, fun D hD => made_list (fun _ v _ => ∃ z, v = .int z) hD (SqL.of upd_same) (by rw [List.length_map]; omega) (fun _ _ _ _ _ _ _ m => m) (fun _ => rfl) ?_ ?_⟩
  · intro i x hi H' _ Q1 q
    rw [List.getElem?_map] at hi
    cases e2 : ns[i]? with
    | none => rw [e2] at hi; cases hi
    | some z =>
      rw [e2] at hi
      cases hi
      exact ⟨_, rfl, z, rfl, q _ H' (Evl.Ex.refl _) ⟨_, rfl⟩⟩
  intro ys H1 hy e1 h1 hm
  rw [List.length_map] at hy
  obtain ⟨cs, rfl⟩ : ∃ cs : List Int, ys = cs.map V.int := ints_of fun k v hk => hm k v hk
  rw [List.length_map] at hy
  have nD : H D = none := Evl.fresh_back (Evl.Ex.new hp) hD
  have e0 : Ex H H1 := (Evl.Ex.new hp).trans e1
  -- {'deep': [cell for cell in cells if cell >= 10 ** 18], ..
  intro c hc
  have ncD : D ≠ c := ne_of_none h1 hc
  refine ⟨_, rfl, D, rfl, ⟨_, SqL.of (by rw [upd_ne ncD]; exact h1)⟩, fun d hd => ?_⟩
  have ndc : d ≠ c := by
    intro z
    rw [z, upd_same] at hd
    cases hd
  have nd1 : H1 d = none := by rw [upd_ne ndc] at hd; exact hd
  have nDd : D ≠ d := ne_of_none h1 nd1
  refine lc_list (K := K) (a := D) (xs := cs.map V.int) (fun i G => ∃ ds : List Int, ds.length ≤ i ∧ (∀ x ∈ ds, 0 ≤ x) ∧ G d = some (.lst (ds.map V.int)) ∧ Ex H1 G ∧ G c = some (.dK []) ∧ i ≤ 63)
    ⟨[], Nat.le_refl _, fun _ z => (nomatch z), upd_same, ?_, by rw [upd_ne ndc.symm, upd_same], by decide⟩ (fun i G _ ⟨_, _, _, _, e, _⟩ => SqL.of (e _ _ h1)) ?_ ?_
  · exact (Evl.Ex.new hc).trans (Evl.Ex.new hd)
  · rintro i x G hi ⟨ds, hl, hpos, g1, g2, g3, _⟩
    have hil := (List.getElem?_eq_some_iff.mp hi).1
    rw [List.length_map] at hil
    rw [List.getElem?_map] at hi
    cases e2 : cs[i]? with
    | none => rw [e2] at hi; cases hi
    | some z =>
      rw [e2] at hi
      cases hi
      refine ⟨rfl, _, rfl, _, _, rfl, rfl, ⟨by decide, by decide, by decide⟩, _, _, rfl, rfl, _, rfl, ?_⟩
      refine ite2 (fun hz => ?_) (fun _ => ?_)
      · have hz2 : (10 : Int) ^ (18 : Int).toNat ≤ z := of_decide_eq_true hz
        have hz3 : (0 : Int) ≤ (10 : Int) ^ (18 : Int).toNat := by decide
        refine ⟨_, rfl, _, g1, by rw [List.length_map]; exact Nat.lt_of_le_of_lt (by omega) (by decide : 63 < sizeLine), ds ++ [z], by simp; omega, ?_, by rw [upd_same, List.map_append]; rfl, Evl.Ex.mut g2 nd1, by rw [upd_ne ndc.symm]; exact g3, by omega⟩
        intro x hx
        rcases List.mem_append.mp hx with q | q
        · exact hpos x q
        · simp at q
          omega
      · exact ⟨ds, by omega, hpos, g1, g2, g3, by omega⟩
  rintro G ⟨ds, hl, hpos, g1, g2, g3, hle⟩
  rw [List.length_map] at hl hle
  have gD : G D = some (.lst (cs.map V.int)) := g2 _ _ h1
  -- 'all': cells + [61] * int(cells == [])
  refine ⟨_, rfl, (by show 1 ≤ sizeLine; decide), fun q hq => ⟨_, rfl, (by show 0 ≤ sizeLine; decide), fun r hr2 => ?_⟩⟩
  have nqr : q ≠ r := ne_of_none upd_same hr2
  have hDq : D ≠ q := ne_of_none gD hq
  have gD1 : upd G q (.lst [.int 61]) D = some (.lst (cs.map V.int)) := by rw [upd_ne hDq]; exact gD
  have hDr : D ≠ r := ne_of_none gD1 hr2
  have gD2 : upd (upd G q (.lst [.int 61])) r (.lst []) D = some (.lst (cs.map V.int)) := by rw [upd_ne hDr]; exact gD1
  have gq2 : upd (upd G q (.lst [.int 61])) r (.lst []) q = some (.lst [.int 61]) := by rw [upd_ne nqr]; exact upd_same
  have e2 : Ex G (upd (upd G q (.lst [.int 61])) r (.lst [])) := (Evl.Ex.new hq).trans (Evl.Ex.new hr2)
  have gr2 : upd (upd G q (.lst [.int 61])) r (.lst []) r = some (.lst []) := upd_same
  generalize upd (upd G q (.lst [.int 61])) r (.lst []) = G2 at gD2 gq2 gr2 e2 ⊢
  refine ⟨.list (cs.map .int), .list [], .lst (SqL.of gD2) (dp_ints _ _ cs), .lst (SqL.of gr2) .nil, shaped_ints cs, shaped_ints [], .inr ⟨_, rfl, q, _, _, rfl, rfl, gq2, ?_, ?_, ?_, fun u hu2 => ?_⟩⟩
  · split <;> decide
  · split <;> decide
  · rw [eqv_nil]
    cases cs
    · decide
    · exact Nat.zero_le _
  have nDu : D ≠ u := ne_of_none gD2 hu2
  refine ⟨D, u, _, _, rfl, rfl, by rw [upd_ne nDu]; exact gD2, upd_same, ?_, fun al hal => ?_⟩
  · rw [eqv_nil, List.length_map]
    cases cs with
    | nil => decide
    | cons y r => exact Nat.le_trans (by simp at hl hle ⊢; omega) (by decide : 63 ≤ sizeLine)
  have ecs : cs.map V.int ++ (List.replicate (if PyData.eqv (.list (cs.map .int)) (.list []) = true then (1 : Int) else 0).toNat [V.int 61]).flatten = (if cs.isEmpty then [61] else cs).map V.int := by
    rw [eqv_nil]
    cases cs <;> simp
  rw [ecs]
  have hcs : (if cs.isEmpty then [61] else cs) ≠ [] := by
    cases cs <;> simp
  have hcl : (if cs.isEmpty then [61] else cs).length ≤ 64 := by
    cases cs with
    | nil => decide
    | cons y r => simp at hy ⊢; omega
  generalize (if cs.isEmpty then [61] else cs) = ws at hcs hcl ⊢
  -- the dict's own place: nothing was written meanwhile
  have c2 : G2 c = some (.dK []) := e2 _ _ g3
  have ncu : c ≠ u := ne_of_none c2 hu2
  have d2 : G2 d = some (.lst (ds.map V.int)) := e2 _ _ g1
  have ndu : d ≠ u := ne_of_none d2 hu2
  have ncal : c ≠ al := ne_of_none (by rw [upd_ne ncu]; exact c2) hal
  have ndal : d ≠ al := ne_of_none (by rw [upd_ne ndu]; exact d2) hal
  have c3 : upd (upd G2 u (.lst (List.replicate (if PyData.eqv (.list (cs.map .int)) (.list []) = true then (1 : Int) else 0).toNat [V.int 61]).flatten)) al (.lst (ws.map V.int)) c = some (.dK []) := by
    rw [upd_ne ncal, upd_ne ncu]
    exact c2
  have d3 : upd (upd G2 u (.lst (List.replicate (if PyData.eqv (.list (cs.map .int)) (.list []) = true then (1 : Int) else 0).toNat [V.int 61]).flatten)) al (.lst (ws.map V.int)) d = some (.lst (ds.map V.int)) := by
    rw [upd_ne ndal, upd_ne ndu]
    exact d2
  have e3 : Ex H1 (upd (upd G2 u (.lst (List.replicate (if PyData.eqv (.list (cs.map .int)) (.list []) = true then (1 : Int) else 0).toNat [V.int 61]).flatten)) al (.lst (ws.map V.int))) :=
    ((g2.trans e2).trans (Evl.Ex.new hu2)).trans (Evl.Ex.new hal)
  have a3 : upd (upd G2 u (.lst (List.replicate (if PyData.eqv (.list (cs.map .int)) (.list []) = true then (1 : Int) else 0).toNat [V.int 61]).flatten)) al (.lst (ws.map V.int)) al = some (.lst (ws.map V.int)) := upd_same
  generalize upd (upd G2 u (.lst (List.replicate (if PyData.eqv (.list (cs.map .int)) (.list []) = true then (1 : Int) else 0).toNat [V.int 61]).flatten)) al (.lst (ws.map V.int)) = G3 at c3 d3 e3 a3 ⊢
  refine ⟨c3, canKvs d al 0, rfl, (by show 3 ≤ 15; decide), c, d, al, 0, ds, rfl, by rw [upd_same, merge_can], by rw [upd_ne ndc]; exact d3, ⟨hpos, by omega⟩, ndc, ?_⟩
  have nc1 : H1 c = none := hc
  have e4 : Ex H1 (upd (upd (upd G3 c (.dK (mergeK [] (canKvs d al 0)))) c (.ext (phiC P w c d al))) d (.ext (phiD P w d))) := Evl.Ex.mut (Evl.Ex.mut (Evl.Ex.mut e3 nc1) nc1) nd1
  refine k c _ (e0.trans e4) ⟨d, al, ws, by rw [upd_ne ndc.symm]; exact upd_same, upd_same, ?_, hcs, hcl, ndc⟩
  rw [upd_ne ndal.symm, upd_ne ncal.symm, upd_ne ncal.symm]
  exact a3
end
end Lr

namespace Lr
open PySem L2
/-- 0, 1, .. below n -/
def upto (n : Nat) : List Int := (List.range n).map Int.ofNat
theorem upto_len (n : Nat) : (upto n).length = n := by unfold upto; simp
theorem mem_upto {n : Nat} {x : Int} : x ∈ upto n ↔ 0 ≤ x ∧ x < n := by
  unfold upto
  simp only [List.mem_map, List.mem_range]
  constructor
  · rintro ⟨k, hk, rfl⟩
    exact ⟨Int.ofNat_nonneg _, by simpa using hk⟩
  · rintro ⟨h0, h1⟩
    exact ⟨x.toNat, by omega, by simp; omega⟩
theorem rgV_upto {n : Int} : rgV 0 n = (upto n.toNat).map V.int := by
  unfold rgV upto
  simp [List.map_map]
theorem erase_map {α β : Type} (f : α → β) : ∀ (l : List α) (i : Nat), (l.map f).eraseIdx i = (l.eraseIdx i).map f
  | [], _ => by simp
  | _ :: _, 0 => by simp
  | x :: r, i + 1 => by simp [erase_map f r i]
theorem erase_perm : ∀ (l : List Int) (i : Nat) (h : i < l.length), (l[i] :: l.eraseIdx i).Perm l
  | x :: r, 0, _ => by simp
  | x :: r, i + 1, h => by
    have h2 : i < r.length := by simpa using h
    simp only [List.getElem_cons_succ, List.eraseIdx_cons_succ]
    exact (List.Perm.swap x r[i] (r.eraseIdx i)).trans ((erase_perm r i h2).cons x)
theorem pick {rs : List Int} {r : Int} (h0 : 0 ≤ r) (h1 : r < (rs.length : Int)) : ∃ x, (rs.map V.int)[r.toNat]? = some (.int x) ∧ (rs.map V.int).eraseIdx r.toNat = (rs.eraseIdx r.toNat).map V.int ∧ (x :: rs.eraseIdx r.toNat).Perm rs ∧ seqIndex? r (rs.map V.int).length = some r.toNat := by
  have hr : r.toNat < rs.length := by omega
  refine ⟨rs[r.toNat], by rw [List.getElem?_map, List.getElem?_eq_getElem hr]; rfl, erase_map _ _ _, erase_perm rs _ hr, ?_⟩
  have h2 : ¬ r < 0 := by omega
  simp [seqIndex?, h0, h1, h2]
section
variable {P : Program} {w : World} {K : PySem.W.Frag} {mg : Str → Option Value} {base : Heap}
def spMixed (P : Program) (w : World) : Sp := fun vs H Q _ => ∃ (c : Addr) (n : Nat), vs = [.ref c, .int n] ∧ Can P w H c ∧ n ≤ 1000 ∧ ∀ (p : Addr) (ns : List Int) H', Ex H H' → H' p = some (.tup (ns.map V.int)) → ns.Perm (upto n) → Q (.ref p) H'
theorem ok_mixed {f : Addr} {fd : FuncData} (F : Fun K "_law_mixed" "_law_mixed" sMixed f fd) (T : Blt mg) (c_law_roll : Cal P w K mg base 1 "_law_roll" ["_law_can", "_law_many"] (spRoll P w)) :
    FnOk P w K mg base CX0 2 f fd ["_law_can", "_law_many"] (spMixed P w) := by
  refine F.ok scMixed (fun vs H Q E h => ?_) (fun cdv A outer s H vs Q E hr h => ?_)
  · obtain ⟨c, n, rfl, _⟩ := h
    rfl
  obtain ⟨c, n, rfl, C, hn, k⟩ := h
  refine ⟨_, (pss_cons (ps_par (i := 2) (j := 3) rfl scMixed.nd rfl rfl (by decide) rfl rfl (pa_cons (pe_listRg rfl rfl T.list (prg_1 rfl T.range (pv 1))) (pa_cons (pe_lst pa_nil) pa_nil)) rfl)
    (pss_cons (ps_while PassesOwn.never (pt_cmpR (ko_neD (K := K) rfl hr.units) (pv 2) (pe_lst pa_nil) (nomark _)) (pss_one (ps_expr (pe_bm PySem.F.plainAttrs_list PySem.F.slot_list_append PySem.F.type_list_append mt_append (pv 3) (pa_cons (pe_bm PySem.F.plainAttrs_list PySem.F.slot_list_pop PySem.F.type_list_pop mt_popAt (pv 2) (pa_cons (pe_cal c_law_roll (hr.mono (by decide)) rfl (pa_cons (pv 0) (pa_cons (pe_callB (k_len (K := K) rfl) rfl T.len bt_len (pa_cons (pv 2) pa_nil)) pa_nil))) pa_nil)) pa_nil)))))
    (pss_one (ps_ret (pe_callTy (k_tuple_of (K := K) rfl) rfl T.tuple bt_tuple (pa_cons (pv 3) pa_nil)))))), ?_⟩
  -- rest, found = list(range(many)), []
  refine ⟨_, rfl, n, rfl, RgOk.of_le (by decide) (by omega) (by decide) (by omega), fun l hl => ⟨(by show 0 ≤ sizeLine; decide), fun m hm => ⟨_, _, rfl, ?_⟩⟩⟩
  rw [rgV_upto] at hm ⊢
  have nlm : l ≠ m := ne_of_none upd_same hm
  have hm0 : H m = none := Evl.fresh_back (Evl.Ex.new hl) hm
  rw [Int.toNat_natCast] at hm ⊢
  -- while rest != []
  refine ⟨fun t σ H' => ∃ rs fs : List Int, t = rs.length ∧ σ = [some (.ref c), some (.int n), some (.ref l), some (.ref m)] ∧ H' l = some (.lst (rs.map V.int)) ∧ H' m = some (.lst (fs.map V.int)) ∧ (fs ++ rs).Perm (upto n) ∧ Ex H H',
    ⟨_, upto n, [], rfl, rfl, by rw [upd_ne nlm]; exact upd_same, upd_same, List.Perm.refl _, (Evl.Ex.new hl).trans (Evl.Ex.new hm)⟩, ?_⟩
  rintro t σ H' ⟨rs, fs, rfl, rfl, h1, h2, hp, e⟩
  refine ⟨_, rfl, (by show 0 ≤ sizeLine; decide), fun z hz => ?_⟩
  have q1 : upd H' z (.lst []) l = some (.lst (rs.map V.int)) := by rw [upd_ne (ne_of_none h1 hz)]; exact h1
  have q2 : upd H' z (.lst []) m = some (.lst (fs.map V.int)) := by rw [upd_ne (ne_of_none h2 hz)]; exact h2
  have q3 : upd H' z (.lst []) z = some (.lst []) := upd_same
  have q4 : Ex H (upd H' z (.lst [])) := e.trans (Evl.Ex.new hz)
  generalize upd H' z (.lst []) = G at q1 q2 q3 q4 ⊢
  refine ⟨.list (rs.map .int), .list [], .lst (SqL.of q1) (dp_ints _ _ rs), .lst (SqL.of q3) .nil, shaped_ints rs, shaped_ints [], _, rfl, ?_⟩
  rw [eqv_nil]
  have hlen : fs.length + rs.length = n := by
    have := hp.length_eq
    rw [List.length_append, upto_len] at this
    exact this
  cases hrs : rs.isEmpty with
  | false =>
    refine iteT ⟨_, fun σ' H' h => h, ?_⟩
    have hpos : 0 < rs.length := by cases rs with | nil => simp at hrs | cons _ _ => simp
    have ll : ((rs.map V.int).length : Int) = rs.length := by rw [List.length_map]
    refine ⟨_, rfl, .inl ⟨rfl, _, SqL.of q2⟩, _, rfl, .inl ⟨rfl, _, SqL.of q1⟩, _, rfl, _, rfl, l, _, rfl, .inl (SqL.of q1), c, _, rfl, C.mono q4, by omega, by omega, fun r H2 e2 r0 r1 => ?_⟩
    rw [ll] at r1
    obtain ⟨x, hx, hE, hP, hI⟩ := pick r0 r1
    refine ⟨l, _, r, r.toNat, .int x, rfl, rfl, e2 _ _ q1, by omega, by omega, hI, hx, ?_⟩
    rw [hE]
    refine ⟨m, _, _, rfl, rfl, by rw [upd_ne nlm.symm]; exact e2 _ _ q2, by rw [List.length_map]; exact Nat.lt_of_le_of_lt (by omega) (by decide : 1000 < sizeLine), ?_⟩
    have hle : (rs.eraseIdx r.toNat).length < rs.length := by
      have := hP.length_eq
      simp at this
      omega
    refine ⟨_, hle, rs.eraseIdx r.toNat, fs ++ [x], rfl, rfl, by rw [upd_ne nlm, upd_same], by rw [upd_same, List.map_append]; rfl, ?_, Evl.Ex.mut (Evl.Ex.mut (q4.trans e2) hl) hm0⟩
    rw [List.append_assoc]
    exact (List.Perm.append_left fs hP).trans hp
  | true =>
    refine iteF ?_
    have hr0 : rs = [] := List.isEmpty_iff.mp hrs
    subst hr0
    rw [List.append_nil] at hp
    refine ⟨_, rfl, m, _, rfl, .inl ⟨SqL.of q2, fun p hp2 => k p fs _ (q4.trans (Evl.Ex.new hp2)) upd_same hp⟩⟩
end
end Lr

namespace Lr
open PySem L2
abbrev sRule : Stmt := topS 10
abbrev nRule : List Str := ["_law_can", "_law_upto", "_law_many", "_law_way", "_law_first", "_law_plain", "_law_k", "_law_lane"]
theorem scRule : FnScope nRule ["_law_can", "_law_upto"] (defScope sRule) :=
  ⟨rfl, rfl, rfl, by decide +kernel, rfl, by decide +kernel, by decide +kernel⟩
abbrev sCars : Stmt := topS 11
abbrev nCars : List Str := ["_law_can", "_law_rule_here", "_law_upto", "_law_many", "_law_lanes", "_law_way", "_law_some", "_law_k"]
theorem scCars : FnScope nCars ["_law_can", "_law_rule_here", "_law_upto"] (defScope sCars) :=
  ⟨rfl, rfl, rfl, by decide +kernel, rfl, by decide +kernel, by decide +kernel⟩
/-- a rule, as lists of numbers and as data -/
def RuleOk (n : Nat) (ps : List (List Int)) : Prop := 1 ≤ n ∧ ps.length = n + 1 ∧ ∀ p ∈ ps, p.Perm (upto n)
def prefD (p : List Int) : PyData := .tuple (p.map .int)
def ruleD (ps : List (List Int)) : PyData := .tuple (ps.map prefD)
/-- a preference of n lanes stands at v -/
def PrefAt (n : Nat) (v : V) (H : Hp) : Prop := ∃ (a : Addr) (ns : List Int), v = .ref a ∧ H a = some (.tup (ns.map V.int)) ∧ ns.Perm (upto n)
theorem PrefAt.exl {n : Nat} {v : V} {H H' : Hp} (e : Exl H H') (h : PrefAt n v H) : PrefAt n v H' := by
  obtain ⟨a, ns, rfl, h1, h2⟩ := h
  exact ⟨a, ns, rfl, e _ _ tup_nolst h1, h2⟩
theorem PrefAt.ex {n : Nat} {v : V} {H H' : Hp} (e : Ex H H') (h : PrefAt n v H) : PrefAt n v H' := h.exl (Exl.of e)
theorem prefs_of {n : Nat} {H : Hp} : ∀ {xs : List V}, (∀ v ∈ xs, PrefAt n v H) → ∃ ps : List (List Int), ps.length = xs.length ∧ (∀ p ∈ ps, p.Perm (upto n)) ∧ DvAll H xs (ps.map prefD)
  | [], _ => ⟨[], rfl, fun _ z => (nomatch z), .nil⟩
  | x :: r, h => by
    obtain ⟨a, ns, rfl, h1, h2⟩ := h x (by simp)
    obtain ⟨ps, p1, p2, p3⟩ := prefs_of (xs := r) fun v hv => h v (by simp [hv])
    refine ⟨ns :: ps, by simp [p1], fun p hp => ?_, .cons (.tup h1 (dv_ints H ns)) p3⟩
    rcases List.mem_cons.mp hp with rfl | hp
    · exact h2
    · exact p2 p hp
/-- a tuple of so many of them is a rule -/
theorem rule_at {n : Nat} {H : Hp} {p : Addr} {xs : List V} (hn : 1 ≤ n) (hp : H p = some (.tup xs)) (hl : xs.length = n + 1) (h : ∀ v ∈ xs, PrefAt n v H) : ∃ ps, RuleOk n ps ∧ Dv H (.ref p) (ruleD ps) := by
  obtain ⟨ps, p1, p2, p3⟩ := prefs_of h
  exact ⟨ps, ⟨hn, p1.trans hl, p2⟩, .tup hp p3⟩
theorem turn_perm {n k : Nat} : ((upto n).drop k ++ (upto n).take k).Perm (upto n) := by
  have h := List.perm_append_comm (l₁ := (upto n).drop k) (l₂ := (upto n).take k)
  rw [List.take_append_drop] at h
  exact h
theorem end_perm {ns : List Int} {n : Nat} {k : Int} (h : ns.Perm (upto n)) (h0 : 0 ≤ k) (h1 : k < n) : (ns.filter (fun x => !decide (x = k)) ++ [k]).Perm (upto n) := by
  refine List.Perm.trans ?_ h
  have hk : k ∈ ns := h.mem_iff.mpr (mem_upto.mpr ⟨h0, h1⟩)
  have nd : ns.Nodup := h.nodup_iff.mpr (by
    unfold upto
    exact List.Pairwise.map _ (fun a b hab z => hab (Int.ofNat.inj z)) List.nodup_range)
  have e : ns.filter (fun x => !decide (x = k)) = ns.erase k := by
    rw [nd.erase_eq_filter]
    congr 1
  rw [e]
  exact (List.perm_append_comm.trans (List.perm_cons_erase hk).symm)
theorem filt_int {ns : List Int} {k : Int} : (ns.map V.int).filter (fun v => !decide (v = .int k)) = (ns.filter (fun x => !decide (x = k))).map V.int := by
  induction ns with
  | nil => rfl
  | cons x r ih =>
    by_cases hx : x = k
    · subst hx
      simp [ih]
    · have : ¬ V.int x = V.int k := fun z => hx (V.int.inj z)
      simp [hx, ih]
section
variable {P : Program} {w : World} {K : PySem.W.Frag} {mg : Str → Option Value} {base : Heap}
def spRule (P : Program) (w : World) : Sp := fun vs H Q _ => ∃ (c : Addr) (u : Nat), vs = [.ref c, .int u] ∧ Can P w H c ∧ 1 ≤ u ∧ u ≤ 100 ∧ ∀ (v : V) (n : Nat) (ps : List (List Int)) H', Ex H H' → n ≤ u → RuleOk n ps → Dv H' v (ruleD ps) → Q v H'
theorem ok_rule {f : Addr} {fd : FuncData} (F : Fun K "_law_rule" "_law_rule" sRule f fd) (T : Blt mg) (c_law_roll : Cal P w K mg base 1 "_law_roll" ["_law_can", "_law_many"] (spRoll P w))
    (c_law_mixed : Cal P w K mg base 2 "_law_mixed" ["_law_can", "_law_many"] (spMixed P w)) : FnOk P w K mg base CX0 3 f fd ["_law_can", "_law_upto"] (spRule P w) := by
  refine F.ok scRule (fun vs H Q E h => ?_) (fun cdv A outer s H vs Q E hr h => ?_)
  · obtain ⟨c, n, rfl, _⟩ := h
    rfl
  obtain ⟨c, u, rfl, C, hu1, hu2, k⟩ := h
  refine ⟨_, (pss_cons (ps_asg (pe_tup (pa_cons (pe_op op_add pe_int (pe_cal c_law_roll (hr.mono (by decide)) rfl (pa_cons (pv 0) (pa_cons (pv 1) pa_nil)))) (pa_cons (pe_cal c_law_roll (hr.mono (by decide)) rfl (pa_cons (pv 0) (pa_cons pe_int pa_nil))) pa_nil))) (pg_tup rfl (pgs_cons (pg_name (i := 2) scRule.nd rfl (Or.inr rfl)) (pgs_cons (pg_name (i := 3) scRule.nd rfl (Or.inl rfl)) pgs_nil))))
    (pss_cons (ps_set (i := 4) scRule.nd rfl (Or.inr rfl) (pe_cal c_law_mixed (hr.mono (by decide)) rfl (pa_cons (pv 0) (pa_cons (pv 2) pa_nil))))
    (pss_cons (ps_if (pt_cmpR op_eq (pv 3) pe_int (nomark _)) (pss_one (ps_ret (pe_op (ko_repT (K := K) rfl) (pe_tup (pa_cons (pv 4) pa_nil)) (pe_op op_add (pv 2) pe_int)))) pss_nil)
    (pss_cons (ps_if (pt_cmpR op_eq (pv 3) pe_int (nomark _)) (pss_cons (ps_set (i := 5) scRule.nd rfl (Or.inr rfl) (pe_tupRg rfl rfl T.tuple (prg_1 rfl T.range (pv 2))))
      (pss_one (ps_ret (pe_callTy (k_tuple_of (K := K) rfl) rfl T.tuple bt_tuple (pa_cons (pe_op op_cat (pe_lst (pa_cons (pv 5) pa_nil)) (pe_lc (own := [("_law_k", 6)]) (g := gName 6)  (by rfl) scRule.nd (pi_range1 rfl T.range (pa_cons (pv 2) pa_nil)) (blkOk_by (own := [("_law_k", 6)]) (N := nRule) (sc := defScope sRule) (by decide +kernel)) (fun _ _ _ _ _ => (pg_name (i := 6) scRule.nd rfl (Or.inl rfl))) (fun _ _ _ _ _ => pts_nil) (fun _ _ _ _ _ => (pe_op (ko_catT (K := K) rfl) (pe_slice (ks_tup (K := K) rfl) (pv 5) (po_some (pe_op op_add (pv 6) pe_int)) po_none) (pe_slice (ks_tup (K := K) rfl) (pv 5) po_none (po_some (pe_op op_add (pv 6) pe_int))))))) pa_nil))))) pss_nil)
    (pss_cons (ps_if (pt_cmpR op_eq (pv 3) pe_int (nomark _)) (pss_one (ps_ret (pe_callTy (k_tuple_of (K := K) rfl) rfl T.tuple bt_tuple (pa_cons (pe_op op_cat (pe_lst (pa_cons (pv 4) pa_nil)) (pe_lc (own := [("_law_k", 6)]) (g := gName 6)  (by rfl) scRule.nd (pi_range1 rfl T.range (pa_cons (pv 2) pa_nil)) (blkOk_by (own := [("_law_k", 6)]) (N := nRule) (sc := defScope sRule) (by decide +kernel)) (fun _ _ _ _ _ => (pg_name (i := 6) scRule.nd rfl (Or.inr rfl))) (fun _ _ _ _ _ => pts_nil) (fun _ _ _ _ _ => (pe_op (ko_catT (K := K) rfl) (pe_callTy (k_tuple_of (K := K) rfl) rfl T.tuple bt_tuple (pa_cons (pe_lc (own := [("_law_lane", 7)]) (g := gName 7) (wi := iTup K (tVar 4)) (tt := tTest (tOp rNe (tVar 7) (tVar 6))) (te := tVar 7) (by rfl) scRule.nd (ki_tup (K := K) rfl (pv 4)) (blkOk_by (own := [("_law_lane", 7)]) (N := nRule) (by kernel_rfl)) (fun _ _ _ _ _ => (pg_name (i := 7) scRule.nd rfl (Or.inl rfl))) (fun _ _ _ _ _ => pts_one (pt_cmpR op_ne (pv 7) (pv 6) (nomark _))) (fun _ _ _ _ _ => (pv 7))) pa_nil)) (pe_tup (pa_cons (pv 6) pa_nil)))))) pa_nil)))) pss_nil)
    (pss_one (ps_ret (pe_callTy (k_tuple_of (K := K) rfl) rfl T.tuple bt_tuple (pa_cons (pe_lc (own := [("_law_k", 6)]) (g := gName 6)  (by rfl) scRule.nd (pi_range1 rfl T.range (pa_cons (pe_op op_add (pv 2) pe_int) pa_nil)) (blkOk_by (own := [("_law_k", 6)]) (N := nRule) (sc := defScope sRule) (by decide +kernel)) (fun _ _ _ _ _ => (pg_name (i := 6) scRule.nd rfl (Or.inl rfl))) (fun _ _ _ _ _ => pts_nil) (fun _ _ _ _ _ => (pe_cal c_law_mixed (hr.mono (by decide)) rfl (pa_cons (pv 0) (pa_cons (pv 2) pa_nil))))) pa_nil))))))))), ?_⟩
  -- many, way = 1 + roll(can, upto), roll(can, 5)
  refine ⟨_, rfl, _, rfl, c, _, rfl, C, by omega, by omega, fun r H1 e1 r0 r1 => ⟨_, _, rfl, rfl, _, rfl, c, _, rfl, C.mono e1, by decide, by decide, fun y H2 e2 y0 y1 => ⟨(by show 2 ≤ sizeLine; decide), fun p hp => ⟨p, _, rfl, SqT.of upd_same, rfl, _, _, rfl, _, _, rfl, rfl, ?_⟩⟩⟩⟩
  obtain ⟨n, hn⟩ : ∃ n : Nat, 1 + r = (n : Int) := ⟨(1 + r).toNat, by omega⟩
  have hv : (fun i j : Int => V.int (i + j)) 1 r = V.int (n : Int) := congrArg V.int hn
  rw [hv]
  have hn1 : 1 ≤ n := by omega
  have hnu : n ≤ u := by omega
  have e3 : Ex H (upd H2 p (.tup [.int n, .int y])) := (e1.trans e2).trans (Evl.Ex.new hp)
  generalize upd H2 p (.tup [.int n, .int y]) = G at e3 ⊢
  -- first = mixed(can, many)
  refine ⟨_, rfl, _, rfl, c, n, rfl, C.mono e3, by omega, fun q ns H4 e4 hq hns => ?_⟩
  have pq : PrefAt n (.ref q) H4 := ⟨q, ns, rfl, hq, hns⟩
  have eH : Ex H H4 := e3.trans e4
  have done : ∀ (p : Addr) (xs : List V) (G : Hp), Ex H4 G → G p = some (.tup xs) → xs.length = n + 1 → (∀ v ∈ xs, PrefAt n v G) → Q (.ref p) G := fun p xs G e h1 h2 h3 => by
    obtain ⟨ps, g1, g2⟩ := rule_at hn1 h1 h2 h3
    exact k _ n ps G (eH.trans e) hnu g1 g2
  -- if way == 0
  refine ⟨_, rfl, rfl, _, rfl, ?_⟩
  refine ite2 (fun _ => ?_) (fun _ => ?_)
  · refine ⟨_, rfl, (by show 1 ≤ sizeLine; decide), fun z hz => ⟨_, rfl, _, _, rfl, rfl, z, _, _, rfl, rfl, SqT.of upd_same, (by simp), by omega, by omega, (by simp), fun t ht => ?_⟩⟩
    have ex : Ex H4 (upd (upd H4 z (.tup [.ref q])) t (.tup (List.replicate ((n : Int) + 1).toNat [V.ref q]).flatten)) := (Evl.Ex.new hz).trans (Evl.Ex.new ht)
    refine done t _ _ ex upd_same ?_ fun v hv => ?_
    · simp
    · have : v = .ref q := by
        simp only [List.mem_flatten, List.mem_replicate] at hv
        obtain ⟨l, ⟨_, rfl⟩, hv⟩ := hv
        simpa using hv
      subst this
      exact pq.ex ex
  -- if way == 1
  refine ⟨_, rfl, rfl, _, rfl, ?_⟩
  refine ite2 (fun _ => ?_) (fun _ => ?_)
  · refine ⟨_, rfl, n, rfl, RgOk.of_le (by decide) (by omega) (by decide) (by omega), fun z hz => ?_⟩
    rw [rgV_upto, Int.toNat_natCast] at *
    have pz : PrefAt n (.ref z) (upd H4 z (.tup ((upto n).map V.int))) := ⟨z, _, rfl, upd_same, List.Perm.refl _⟩
    have ez : Ex H4 (upd H4 z (.tup ((upto n).map V.int))) := Evl.Ex.new hz
    have az : upd H4 z (.tup ((upto n).map V.int)) z = some (.tup ((upto n).map V.int)) := upd_same
    generalize upd H4 z (.tup ((upto n).map V.int)) = G1 at pz ez az ⊢
    refine ⟨_, rfl, (by show 1 ≤ sizeLine; decide), fun l hl => ⟨_, rfl, n, rfl, by omega, by omega, fun D hD => ?_⟩⟩
    have el : Ex G1 (upd G1 l (.lst [.ref z])) := Evl.Ex.new hl
    have al : upd G1 l (.lst [.ref z]) l = some (.lst [.ref z]) := upd_same
    generalize upd G1 l (.lst [.ref z]) = G2 at el al hD ⊢
    rw [Int.toNat_natCast]
    refine made_range (fun _ v H' => PrefAt n v H') hD (by omega) (fun _ _ _ _ _ _ e m => m.exl e) (fun _ => rfl) (fun i hi G3 e5 Q1 q1 => ?_) (fun ys G4 hy e6 hD4 hm => ?_)
    · have a3 : G3 z = some (.tup ((upto n).map V.int)) := e5 _ _ (el _ _ az)
      refine ⟨_, rfl, _, rfl, _, _, rfl, rfl, _, rfl, ?_⟩
      unfold tNoPart
      refine sl_at a3 fun b G5 e7 hb => ?_
      refine ⟨_, rfl, _, rfl, _, _, rfl, rfl, _, rfl, ?_⟩
      refine sl_at (e7 _ _ a3) fun b2 G6 e8 hb2 => ?_
      have c1 : ((i : Int) + 1) = ((i + 1 : Nat) : Int) := by omega
      rw [c1, cut_from] at hb
      rw [c1, cut_to] at hb2
      refine cat_at (e8 _ _ hb) hb2 ?_ fun b3 G7 e9 hb3 => q1 _ G7 ((e7.trans e8).trans e9) ⟨b3, (upto n).drop (i + 1) ++ (upto n).take (i + 1), rfl, ?_, turn_perm⟩
      · rw [List.length_drop, List.length_take, List.length_map, upto_len]
        omega
      · rw [hb3, List.map_append, List.map_drop, List.map_take]
    · refine ⟨l, D, _, _, rfl, rfl, e6 _ _ al, hD4, ?_, fun t ht => ⟨t, _, rfl, .inl ⟨SqL.of upd_same, fun t2 ht2 => ?_⟩⟩⟩
      · rw [hy]
        exact Nat.le_trans (show [V.ref z].length + n ≤ 1000 by simp; omega) (by decide)
      have ex : Ex G4 (upd (upd G4 t (.lst ([.ref z] ++ ys))) t2 (.tup ([.ref z] ++ ys))) := (Evl.Ex.new ht).trans (Evl.Ex.new ht2)
      refine done t2 _ _ (((ez.trans el).trans e6).trans ex) upd_same (by simp [hy]) fun v hv => ?_
      rcases List.mem_cons.mp hv with rfl | hv
      · exact pz.ex ((el.trans e6).trans ex)
      · obtain ⟨i, hi⟩ := List.mem_iff_getElem?.mp hv
        exact (hm i v hi).ex ex
  -- if way == 2
  refine ⟨_, rfl, rfl, _, rfl, ?_⟩
  refine ite2 (fun _ => ?_) (fun _ => ?_)
  · refine ⟨_, rfl, (by show 1 ≤ sizeLine; decide), fun l hl => ⟨_, rfl, n, rfl, by omega, by omega, fun D hD => ?_⟩⟩
    have el : Ex H4 (upd H4 l (.lst [.ref q])) := Evl.Ex.new hl
    have al : upd H4 l (.lst [.ref q]) l = some (.lst [.ref q]) := upd_same
    generalize upd H4 l (.lst [.ref q]) = G2 at el al hD ⊢
    rw [Int.toNat_natCast]
    have hlen : ns.length = n := by rw [hns.length_eq, upto_len]
    refine made_range (fun _ v H' => PrefAt n v H') hD (by omega) (fun _ _ _ _ _ _ e m => m.exl e) (fun _ => rfl) (fun i hi G3 e5 Q1 q1 => ?_) (fun ys G4 hy e6 hD4 hm => ?_)
    · have a3 : G3 q = some (.tup (ns.map V.int)) := e5 _ _ (el _ _ hq)
      refine ⟨_, rfl, q, rfl, ⟨_, SqT.of a3⟩, fun D2 hD2 => ?_⟩
      refine filt_tup (fun v => !decide (v = .int (i : Int))) hD2 (SqT.of a3) (by rw [List.length_map]; omega) (fun _ => rfl) (fun x G5 hx e7 Q2 q2 => ?_) (fun x G5 e7 Q2 q2 => ⟨_, rfl, q2⟩) (fun G5 e7 hG5 => ?_)
      · obtain ⟨x, _, rfl⟩ := List.mem_map.mp hx
        exact ⟨_, rfl, _, rfl, rfl, _, rfl, q2⟩
      · rw [filt_int] at hG5
        refine ⟨D2, _, rfl, .inl ⟨SqL.of hG5, fun b hb => ⟨_, rfl, (by show 1 ≤ sizeLine; decide), fun b2 hb2 => ?_⟩⟩⟩
        have nb : b ≠ b2 := ne_of_none upd_same hb2
        refine cat_at (xs := (ns.filter (fun x => !decide (x = (i : Int)))).map V.int) (ys := [.int (i : Int)]) (by rw [upd_ne nb]; exact upd_same) upd_same ?_ fun b3 G7 e9 hb3 => q1 _ G7 (((e7.trans (Evl.Ex.new hb)).trans (Evl.Ex.new hb2)).trans e9) ⟨b3, ns.filter (fun x => !decide (x = (i : Int))) ++ [(i : Int)], rfl, ?_, end_perm hns (by omega) (by omega)⟩
        · have := List.length_filter_le (fun x => !decide (x = (i : Int))) ns
          simp only [List.length_map, List.length_cons, List.length_nil]
          omega
        · rw [hb3, List.map_append]
          rfl
    · refine ⟨l, D, _, _, rfl, rfl, e6 _ _ al, hD4, ?_, fun t ht => ⟨t, _, rfl, .inl ⟨SqL.of upd_same, fun t2 ht2 => ?_⟩⟩⟩
      · rw [hy]
        exact Nat.le_trans (show [V.ref q].length + n ≤ 1000 by simp; omega) (by decide)
      have ex : Ex G4 (upd (upd G4 t (.lst ([.ref q] ++ ys))) t2 (.tup ([.ref q] ++ ys))) := (Evl.Ex.new ht).trans (Evl.Ex.new ht2)
      refine done t2 _ _ ((el.trans e6).trans ex) upd_same (by simp [hy]) fun v hv => ?_
      rcases List.mem_cons.mp hv with rfl | hv
      · exact pq.ex ((el.trans e6).trans ex)
      · obtain ⟨i, hi⟩ := List.mem_iff_getElem?.mp hv
        exact (hm i v hi).ex ex
  -- the rest
  refine ⟨_, rfl, _, _, rfl, rfl, (n : Int) + 1, rfl, by omega, by omega, fun D hD => ?_⟩
  have en : ((n : Int) + 1).toNat = n + 1 := by omega
  rw [en]
  refine made_range (fun _ v H' => PrefAt n v H') hD (by omega) (fun _ _ _ _ _ _ e m => m.exl e) (fun _ => rfl) (fun i hi G3 e5 Q1 q1 => ?_) (fun ys G4 hy e6 hD4 hm => ?_)
  · exact ⟨_, rfl, _, rfl, c, n, rfl, C.mono (eH.trans e5), by omega, fun b ms G5 e7 hb hms => q1 _ G5 e7 ⟨b, ms, rfl, hb, hms⟩⟩
  · refine ⟨D, _, rfl, .inl ⟨SqL.of hD4, fun t2 ht2 => ?_⟩⟩
    have ex : Ex G4 (upd G4 t2 (.tup ys)) := Evl.Ex.new ht2
    refine done t2 _ _ (e6.trans ex) upd_same hy fun v hv => ?_
    obtain ⟨i, hi⟩ := List.mem_iff_getElem?.mp hv
    exact (hm i v hi).ex ex
end
end Lr

namespace Lr
open PySem L2
theorem rule_inv {H : Hp} {v : V} {ps : List (List Int)} (h : Dv H v (ruleD ps)) : ∃ a xs, v = .ref a ∧ H a = some (.tup xs) ∧ xs.length = ps.length ∧ DvAll H xs (ps.map prefD) := by
  cases h with
  | tup h t => exact ⟨_, _, rfl, h, by rw [t.len, List.length_map], t⟩
/-- numbers of some lanes -/
def InLanes (n : Nat) (ns : List Int) : Prop := ∀ x ∈ ns, 0 ≤ x ∧ x < n
section
variable {P : Program} {w : World} {K : PySem.W.Frag} {mg : Str → Option Value} {base : Heap}
def spCars (P : Program) (w : World) : Sp := fun vs H Q _ => ∃ (c : Addr) (v : V) (u n : Nat) (ps : List (List Int)), vs = [.ref c, v, .int u] ∧ Can P w H c ∧ Dv H v (ruleD ps) ∧ RuleOk n ps ∧ n ≤ 100 ∧ 1 ≤ u ∧ u ≤ 1000 ∧
  ∀ (p : Addr) (ns : List Int) H', Ex H H' → H' p = some (.tup (ns.map V.int)) → 1 ≤ ns.length → ns.length ≤ u → InLanes n ns → Q (.ref p) H'
theorem ok_cars {f : Addr} {fd : FuncData} (F : Fun K "_law_cars" "_law_cars" sCars f fd) (T : Blt mg) (c_law_roll : Cal P w K mg base 1 "_law_roll" ["_law_can", "_law_many"] (spRoll P w))
    (c_law_one : Cal P w K mg base 2 "_law_one" ["_law_can", "_law_items"] (spOne P w)) : FnOk P w K mg base CX0 3 f fd ["_law_can", "_law_rule_here", "_law_upto"] (spCars P w) := by
  refine F.ok scCars (fun vs H Q E h => ?_) (fun cdv A outer s H vs Q E hr h => ?_)
  · obtain ⟨c, v, u, n, ps, rfl, _⟩ := h
    rfl
  obtain ⟨c, v, u, n, ps, rfl, C, hv, hR, hn, hu1, hu2, k⟩ := h
  obtain ⟨a, xs, rfl, ha, hx, _⟩ := rule_inv hv
  refine ⟨_, (pss_cons (ps_asg (pe_tup (pa_cons (pe_op op_add pe_int (pe_cal c_law_roll (hr.mono (by decide)) rfl (pa_cons (pv 0) (pa_cons (pv 2) pa_nil)))) (pa_cons (pe_op op_sub (pe_callB (k_len (K := K) rfl) rfl T.len bt_len (pa_cons (pv 1) pa_nil)) pe_int) (pa_cons (pe_cal c_law_roll (hr.mono (by decide)) rfl (pa_cons (pv 0) (pa_cons pe_int pa_nil))) pa_nil)))) (pg_tup rfl (pgs_cons (pg_name (i := 3) scCars.nd rfl (Or.inl rfl)) (pgs_cons (pg_name (i := 4) scCars.nd rfl (Or.inr rfl)) (pgs_cons (pg_name (i := 5) scCars.nd rfl (Or.inl rfl)) pgs_nil)))))
    (pss_cons (ps_if (pt_cmpR op_eq (pv 5) pe_int (nomark _)) (pss_one (ps_ret (pe_callTy (k_tuple_of (K := K) rfl) rfl T.tuple bt_tuple (pa_cons (pe_lc (own := [("_law_k", 7)]) (g := gName 7)  (by rfl) scCars.nd (pi_range1 rfl T.range (pa_cons (pv 3) pa_nil)) (blkOk_by (own := [("_law_k", 7)]) (N := nCars) (sc := defScope sCars) (by decide +kernel)) (fun _ _ _ _ _ => (pg_name (i := 7) scCars.nd rfl (Or.inl rfl))) (fun _ _ _ _ _ => pts_nil) (fun _ _ _ _ _ => (pe_op op_modN (pv 7) (pv 4)))) pa_nil)))) pss_nil)
    (pss_cons (ps_set (i := 6) scCars.nd rfl (Or.inr rfl) (pe_lc (own := [("_law_k", 7)]) (g := gName 7)  (by rfl) scCars.nd (pi_range1 rfl T.range (pa_cons (pe_ix (kx_list (K := K) rfl) (pe_lst (pa_cons pe_int (pa_cons (pv 4) pa_nil))) (pe_op op_sub (pv 5) pe_int) (fun _ _ => rfl)) pa_nil)) (blkOk_by (own := [("_law_k", 7)]) (N := nCars) (sc := defScope sCars) (by decide +kernel)) (fun _ _ _ _ _ => (pg_name (i := 7) scCars.nd rfl (Or.inl rfl))) (fun _ _ _ _ _ => pts_nil) (fun _ _ _ _ _ => (pe_cal c_law_roll (hr.mono (by decide)) rfl (pa_cons (pv 0) (pa_cons (pv 4) pa_nil))))))
    (pss_one (ps_ret (pe_callTy (k_tuple_of (K := K) rfl) rfl T.tuple bt_tuple (pa_cons (pe_lc (own := [("_law_k", 7)]) (g := gName 7)  (by rfl) scCars.nd (pi_range1 rfl T.range (pa_cons (pv 3) pa_nil)) (blkOk_by (own := [("_law_k", 7)]) (N := nCars) (sc := defScope sCars) (by decide +kernel)) (fun _ _ _ _ _ => (pg_name (i := 7) scCars.nd rfl (Or.inl rfl))) (fun _ _ _ _ _ => pts_nil) (fun _ _ _ _ _ => (pe_cal c_law_one (hr.mono (by decide)) rfl (pa_cons (pv 0) (pa_cons (pv 6) pa_nil))))) pa_nil))))))), ?_⟩
  have hn1 := hR.1
  have hxl : xs.length = n + 1 := hx.trans hR.2.1
  -- many, lanes, way
  refine ⟨_, rfl, _, rfl, c, _, rfl, C, by omega, by omega, fun r H1 e1 r0 r1 => ⟨_, _, rfl, rfl, _, rfl, a, _, rfl, .inr (SqT.of (e1 _ _ ha)), _, _, rfl, rfl, _, rfl, c, _, rfl, C.mono e1, by decide, by decide, fun y H2 e2 y0 y1 => ⟨(by show 3 ≤ sizeLine; decide), fun p hp => ⟨p, _, rfl, SqT.of upd_same, rfl, _, _, rfl, _, _, rfl, _, _, rfl, rfl, ?_⟩⟩⟩⟩
  obtain ⟨m, hm⟩ : ∃ m : Nat, 1 + r = (m : Int) := ⟨(1 + r).toNat, by omega⟩
  have hv1 : (fun i j : Int => V.int (i + j)) 1 r = V.int (m : Int) := congrArg V.int hm
  have hv2 : (fun i j : Int => V.int (i - j)) (xs.length : Int) 1 = V.int (n : Int) := congrArg V.int (by omega)
  rw [hv1, hv2]
  have e3 : Ex H (upd H2 p (.tup [.int m, .int n, .int y])) := (e1.trans e2).trans (Evl.Ex.new hp)
  generalize upd H2 p (.tup [.int m, .int n, .int y]) = G at e3 ⊢
  have done : ∀ (ys : List V) (D : Addr) (G' : Hp), Ex H G' → G' D = some (.lst ys) → ys.length = m → (∀ (i : Nat) (v : V), ys[i]? = some v → ∃ z, v = .int z ∧ 0 ≤ z ∧ z < n) → rTupOf K [.ref D] G' Q := fun ys D G' e hD hl hm2 => by
    obtain ⟨cs, rfl⟩ := ints_of (ys := ys) fun i v hi => let ⟨z, h1, _⟩ := hm2 i v hi; ⟨z, h1⟩
    rw [List.length_map] at hl
    refine ⟨D, _, rfl, .inl ⟨SqL.of hD, fun l hl2 => k l cs _ (e.trans (Evl.Ex.new hl2)) upd_same (by omega) (by omega) fun x hx => ?_⟩⟩
    obtain ⟨i, hi⟩ := List.mem_iff_getElem?.mp hx
    obtain ⟨z, h1, h2⟩ := hm2 i (.int x) (by rw [List.getElem?_map, hi]; rfl)
    cases h1
    exact h2
  -- if way == 0
  refine ⟨_, rfl, rfl, _, rfl, ?_⟩
  refine ite2 (fun _ => ?_) (fun hy => ?_)
  · refine ⟨_, rfl, m, rfl, by omega, by omega, fun D hD => ?_⟩
    rw [Int.toNat_natCast]
    refine made_range (fun _ v _ => ∃ z, v = .int z ∧ 0 ≤ z ∧ z < n) hD (by omega) (fun _ _ _ _ _ _ _ q => q) (fun _ => rfl) (fun i hi G3 e5 Q1 q1 => ?_) (fun ys G4 hy e6 hD4 hq => done ys D G4 (e3.trans e6) hD4 hy hq)
    exact ⟨_, rfl, _, rfl, _, _, rfl, rfl, by omega, q1 _ G3 (Evl.Ex.refl _) ⟨_, rfl, Int.fmod_nonneg_of_pos _ (by omega), Int.fmod_lt_of_pos _ (by omega)⟩⟩
  -- some = ..
  have hy1 : y = 1 ∨ y = 2 := by
    have : ¬ y = 0 := fun z => hy (by rw [z]; exact decide_eq_true rfl)
    omega
  obtain ⟨t, ht, ht1⟩ : ∃ t : Nat, atI [V.int 2, V.int (n : Int)] (y - 1) = some (.int (t : Int)) ∧ 1 ≤ t ∧ t ≤ 100 := by
    rcases hy1 with rfl | rfl
    · exact ⟨2, rfl, by omega⟩
    · exact ⟨n, rfl, by omega⟩
  refine ⟨_, rfl, (by show 2 ≤ sizeLine; decide), fun l hl => ⟨_, rfl, _, _, rfl, rfl, l, _, _, _, rfl, rfl, SqL.of upd_same, ht, t, rfl, by omega, by omega, fun D hD => ?_⟩⟩
  have el : Ex G (upd G l (.lst [.int 2, .int n])) := Evl.Ex.new hl
  generalize upd G l (.lst [.int 2, .int n]) = G2 at el hD ⊢
  rw [Int.toNat_natCast]
  refine made_range (fun _ v _ => ∃ z, v = .int z ∧ 0 ≤ z ∧ z < n) hD (by omega) (fun _ _ _ _ _ _ _ q => q) (fun _ => rfl) (fun i hi G3 e5 Q1 q1 => ?_) (fun ys G4 hy e6 hD4 hq => ?_)
  · exact ⟨_, rfl, _, rfl, c, n, rfl, C.mono ((e3.trans el).trans e5), by omega, by omega, fun z G5 e7 z0 z1 => q1 _ G5 e7 ⟨z, rfl, z0, z1⟩⟩
  · refine ⟨_, rfl, m, rfl, by omega, by omega, fun D2 hD2 => ?_⟩
    rw [Int.toNat_natCast]
    refine made_range (fun _ v _ => ∃ z, v = .int z ∧ 0 ≤ z ∧ z < n) hD2 (by omega) (fun _ _ _ _ _ _ _ q => q) (fun _ => rfl) (fun i hi G5 e7 Q1 q1 => ?_) (fun zs G6 hz e8 hD6 hq2 => done zs D2 G6 (((e3.trans el).trans e6).trans e8) hD6 hz hq2)
    refine ⟨_, rfl, _, rfl, c, D, ys, rfl, C.mono (((e3.trans el).trans e6).trans e7), e7 _ _ hD4, by omega, by omega, fun v G7 e9 hv => q1 v G7 e9 ?_⟩
    obtain ⟨j, hj⟩ := List.mem_iff_getElem?.mp hv
    exact hq j v hj
end
end Lr

namespace Lr
open PySem L2 PySem.Spec PyProof.Rows
/-! ### for i, c in enumerate(a text) -/
def ItS (z : Str) : It :=
  ⟨fun i _ => i < z.cps.size, fun i H v G => ∃ T c, v = .ref T ∧ H T = none ∧ z.cps[i]? = some c ∧ G = upd H T (.tup [.int (i : Nat), .str ⟨#[c]⟩]), fun i _ => z.cps.size ≤ i⟩
theorem turn_enumS {P : Program} {w : World} {K : PySem.W.Frag} {elts : List Expr} {kk : Nat} {tpos : Pos} (z : Str) (tk : Tok) (e it : Addr) :
    Turn P w K (.Tuple elts kk tpos) (ItS z) [e, it] e (fun i h => (∃ old, IsEnum h e it ((i : Nat) : Int) old) ∧ h.IsStrIter it (strIterType z) z tk i ∧ e ≠ it ∧ i ≤ z.cps.size) where
  mem := by simp
  obj := by
    rintro i h ⟨⟨old, he⟩, ⟨o, ho, hc, hd⟩, _⟩ b hb
    rcases (show b = e ∨ b = it by simpa using hb) with q | q
    · subst q
      exact ⟨_, he, fun v q => nomatch q⟩
    · subst q
      exact ⟨o, ho, fun v q => by rw [hd] at q; cases q⟩
  keep := by
    rintro i h h2 ⟨⟨old, he⟩, ⟨o, ho, r⟩, hne⟩ k
    exact ⟨⟨old, k e (by simp) _ he⟩, ⟨o, k it (by simp) _ ho, r⟩, hne⟩
  item := by
    intro X hP hw hK hc i pins s σ H E I hf st hg
    subst hP hw hK
    obtain ⟨⟨old, he⟩, hit, hne, hle⟩ := st
    have eLt : e < s.heap.objs.size := Heap.lt_size he
    have iLt : it < s.heap.objs.size := by obtain ⟨_, q, _⟩ := hit; exact Heap.lt_size q
    have D := Draws.text (prog := X.prog) (w := X.w) (A := X.A.in1) (I.ok.hd hc) it z tk
    refine wpAny_pyNext_enum_itemD D he hit hg hne (by simpa using hne) fun x h2 t2 hx out hit2 hT hsz hk => ?_
    obtain ⟨c, u, hcx, rfl⟩ := hx
    refine ⟨_, rfl, wpAny_letOwnedTupleGo_enum (s := { s with heap := h2, toks := t2 + 1 }) out fun h3 he3 sb => ?_⟩
    have hT3 : h3.get? s.heap.objs.size = some { cls := .type "tuple", data := .seq #[.int i t2, .str ⟨#[c]⟩ u] } := (sb.2 _ (Nat.ne_of_gt eLt)).trans hT
    have new : ObjOk X.prog X.w (upd H s.heap.objs.size (.tup [.int (i : Nat), .str ⟨#[c]⟩])) h3 s.heap.objs.size (.tup [.int (i : Nat), .str ⟨#[c]⟩]) :=
      ⟨(by show 2 ≤ sizeLine; decide), [.int i t2, .str ⟨#[c]⟩ u], .cons ⟨_, rfl⟩ (.cons ⟨_, rfl⟩ .nil), ⟨_, hT3, rfl, _, rfl⟩⟩
    have kept : ∀ b ob, b ∉ [e, it] → s.heap.get? b = some ob → h3.get? b = some ob := fun b ob hb q =>
      (sb.2 b (fun y => hb (by simp [y]))).trans (hk b ob (fun y => hb (by simp [y])) (fun y => hb (by simp [y])) q)
    have I3 : Inv X pins σ (upd H s.heap.objs.size (.tup [.int (i : Nat), .str ⟨#[c]⟩])) { s with heap := h3, toks := t2 + 1 } := I.turnedNew (ch := [e, it]) kept hf (Nat.le_refl _) new
    refine ⟨.ref s.heap.objs.size, _, I3, rfl, ⟨_, c, rfl, I.hok.fresh (Nat.le_refl _), hcx, rfl⟩, ⟨⟨.str ⟨#[c]⟩ u, ?_⟩, ?_, hne, hg⟩, fun b hb => ?_⟩
    · have e1 : ((i + 1 : Nat) : Int) = (i : Int) + 1 := by omega
      rw [e1]
      exact he3
    · obtain ⟨o, ho, r⟩ := hit2
      exact ⟨o, (sb.2 it (Ne.symm hne)).trans ho, r⟩
    · have lt : b < s.heap.objs.size := by
        rcases (show b = e ∨ b = it by simpa using hb) with q | q <;> (rw [q]; assumption)
      rw [upd_ne (Nat.ne_of_lt lt)]
      exact (hf b hb).1
  done := by
    intro X hP hw hK hc i pins s σ H E I hf st hg
    subst hP hw hK
    obtain ⟨⟨old, he⟩, hit, hne, hle⟩ := st
    have ei : i = z.cps.size := Nat.le_antisymm hle hg
    subst ei
    have D := Draws.text (prog := X.prog) (w := X.w) (A := X.A.in1) (I.ok.hd hc) it z tk
    obtain ⟨f0, f1, f2, f3, f4, f5⟩ := hf it (by simp)
    exact wpAny_pyNext_enum_endD D he hit fun h2 eb => ⟨rfl, I.turned (t' := s.toks) (fun b o hb q => eb b o hb q) f0 f1 f3 f4 f5⟩
  self := by
    rintro A i s Q E ⟨⟨_, he⟩, _⟩ h
    exact wpAny_pyIter_enum he h
def iEnumS (ta : TA) : TI := fun σ H R => ta σ H fun vs G => ∃ z, vs = [.str z] ∧ R (ItS z) G
theorem pi_enumS {X : Cx} {e : Expr} {ta : TA} {p pos tpos : Pos} {elts : List Expr} {kk : Nat} (hg : Gl X "enumerate") (hm : X.mg "enumerate" = none) (ha : PA X [e] ta)
    (hs : starEach [e] X.env = [(false, eval e X.env)] := by rfl) : PI X (.Tuple elts kk tpos) (.Call (.Name "enumerate" p) [e] [] pos) (iEnumS ta) := by
  refine ⟨fun pins s σ H R I h => ?_⟩
  refine Call_ (ld_blt I hg hm boot_enumerate (PyProof.Rows.callWith_type1 (thn (ha.run pos pins s σ H _ I h) ?_) hs rfl))
  rintro us s1 ⟨vs, G, I1, r1, z, rfl, q⟩
  cases r1 with
  | cons r rr =>
    cases rr
    obtain ⟨tk, rfl⟩ := r
    refine call_enumerate_str fun h2 he hit hsz hk => wpAny_pyIter_enum he ?_
    have I2 : Inv X pins σ G { s1 with heap := h2 } := I1.kept (t' := s1.toks) hk
    refine ⟨s1.heap.objs.size + 1, [s1.heap.objs.size + 1, s1.heap.objs.size], _, _, G, rfl, I2, turn_enumS z tk (s1.heap.objs.size + 1) s1.heap.objs.size, ⟨⟨.none, he⟩, hit, Nat.succ_ne_self _, Nat.zero_le _⟩, fun b hb => ?_, q⟩
    have le : s1.heap.objs.size ≤ b := by
      rcases (show b = s1.heap.objs.size + 1 ∨ b = s1.heap.objs.size by simpa using hb) with y | y
      · rw [y]; exact Nat.le_succ _
      · rw [y]; exact Nat.le_refl _
    exact I1.fpOk le (I1.hok.fresh le)
/-- the loop: an invariant over the turn's number; the pair is new -/
theorem for_enumS {K : PySem.W.Frag} {z : Str} {i j : Nat} {tb : TS} {D : Ends} {σ : L2.St} {H : Hp} (Pv : Nat → L2.St → Hp → Prop) (h0 : Pv 0 σ H)
    (hs : ∀ n c σ2 H2 H3, z.cps[n]? = some c → Pv n σ2 H2 → Ex H2 H3 → tb { D with nx := Pv (n + 1), ct := Pv (n + 1), bk := D.nx } ((σ2.set i (some (.int (n : Int)))).set j (some (.str ⟨#[c]⟩))) H3)
    (hd : ∀ σ2 H2, Pv z.cps.size σ2 H2 → D.nx σ2 H2) :
    ∃ W : Nat → Nat → L2.St → Hp → Prop, (∃ m, W 0 m σ H) ∧ ∀ n m σ2 H2, W n m σ2 H2 →
      ((ItS z).stop n H2 ∧ D.nx σ2 H2) ∨ ((ItS z).go n H2 ∧ ∃ N : L2.St → Hp → Prop, (∀ σ3 H3, N σ3 H3 → ∃ m2, m2 < m ∧ W (n + 1) m2 σ3 H3) ∧
        ∀ x H3, (ItS z).yld n H2 x H3 → gTup K 2 (gCons (gName i) (gCons (gName j) gNil)) x σ2 H3 fun σ4 H4 => tb { D with nx := N, ct := N, bk := D.nx } σ4 H4) := by
  refine ⟨fun n m σ2 H2 => m = z.cps.size - n ∧ n ≤ z.cps.size ∧ Pv n σ2 H2, ⟨_, rfl, Nat.zero_le _, h0⟩, ?_⟩
  rintro n m σ2 H2 ⟨rfl, hn, p⟩
  by_cases lt : n < z.cps.size
  · refine .inr ⟨lt, Pv (n + 1), fun σ3 H3 q => ⟨z.cps.size - (n + 1), by omega, rfl, lt, q⟩, ?_⟩
    rintro x H3 ⟨T, c, rfl, hT, hc, rfl⟩
    exact ⟨T, _, rfl, SqT.of upd_same, rfl, _, _, rfl, _, _, rfl, rfl, hs n c σ2 H2 _ hc p (Evl.Ex.new hT)⟩
  · have e : n = z.cps.size := by omega
    subst e
    exact .inl ⟨Nat.le_refl _, hd σ2 H2 p⟩
end Lr

namespace Lr
open PySem L2
def kindD : PyData → String
  | .none => "NoneType"
  | .bool _ => "bool"
  | .int _ => "int"
  | .str _ => "str"
  | .list _ => "list"
  | .tuple _ => "tuple"
  | .dict _ => "dict"
theorem ty_of {K : PySem.W.Frag} {H : Hp} {v : V} {d : PyData} (h : Dv H v d) : TyX K H v (.type (kindD d)) := by
  cases h with
  | non => exact .base .non
  | bl b => exact .base (.bl b)
  | int i => exact .base (.int i)
  | str x => exact .base (.str x)
  | lst h t => exact .base (.lst h)
  | tup h t => exact .base (.tup h)
  | dic h t => exact .base (.dK h)
/-- what isinstance(d, T) answers -/
def isiD (T : String) (d : PyData) : Bool := kindD d == T || (T == "int" && kindD d == "bool")
theorem kit_all : ∀ a ∈ ["NoneType", "bool", "int", "str", "list", "tuple", "dict"], ∀ T ∈ ["str", "int", "bool", "tuple", "list", "dict"], kitB a T = some (a == T || (T == "int" && a == "bool")) := by
  decide +kernel
theorem kind_in (d : PyData) : kindD d ∈ ["NoneType", "bool", "int", "str", "list", "tuple", "dict"] := by
  cases d <;> simp [kindD]
theorem kit_D {K : PySem.W.Frag} (T : String) (d : PyData) (hT : T ∈ ["str", "int", "bool", "tuple", "list", "dict"] := by decide) : PySem.W.kitOne K (.type (kindD d)) (.type T) = some (isiD T d) := kit_ty (kit_all _ (kind_in d) T hT)
theorem isi_at {K : PySem.W.Frag} {H : Hp} {v : V} {d : PyData} {Q : VK} (T : String) (hT : T ∈ ["str", "int", "bool", "tuple", "list", "dict"]) (h : Dv H v d) (q : Q (.bl (isiD T d)) H) : rIsi K [v, .ty T] H Q :=
  ⟨v, .ty T, _, _, _, rfl, .ty T, ty_of h, kit_ty (kit_all _ (kind_in d) T hT), q⟩
end Lr

namespace Lr
open PySem L2
/-! ### what a word's fault is: said once, for the program and for the law -/
abbrev codes (z : Str) : List Nat := z.cps.toList
def LetterOk (c : Nat) : Prop := c = 97 ∨ c = 112
def badAt (cars : Nat) (cs : List Nat) (k : Nat) : Option Str :=
  if cs[k]? = some 97 then (if (cs.take k).count 97 = cars then some "arrival" else none)
  else (if (cs.take k).count 112 = (cs.take k).count 97 then some "passing" else none)
def tellD (k : Nat) (x : Str) : PyData := .tuple [.int k, .str x]
/-- the first letter that is none -/
def LetterRes (cs : List Nat) (d : PyData) : Prop := (d = .none ∧ ∀ c ∈ cs, LetterOk c) ∨ ∃ k c, d = tellD k "letter" ∧ cs[k]? = some c ∧ ¬ LetterOk c ∧ ∀ (j : Nat) (e : Nat), j < k → cs[j]? = some e → LetterOk e
/-- the first letter that cannot take place -/
def StepRes (cars : Nat) (cs : List Nat) (d : PyData) : Prop := (d = .none ∧ ∀ k, k < cs.length → badAt cars cs k = none) ∨ ∃ k x, d = tellD k x ∧ k < cs.length ∧ badAt cars cs k = some x ∧ ∀ j, j < k → badAt cars cs j = none
def WordRes (cars : Nat) (d r : PyData) : Prop := match d with
  | .str z => (LetterRes (codes z) r ∧ r ≠ .none) ∨ ((∀ c ∈ codes z, LetterOk c) ∧ StepRes cars (codes z) r)
  | _ => r = .tuple [.none, .str "string"]
theorem tell_ne {k : Nat} {x : Str} : tellD k x ≠ .none := fun z => nomatch z
theorem LetterRes.uniq {cs : List Nat} {d e : PyData} (a : LetterRes cs d) (b : LetterRes cs e) : d = e := by
  rcases a with ⟨rfl, h⟩ | ⟨k, c, rfl, h1, h2, h3⟩
  · rcases b with ⟨rfl, _⟩ | ⟨k, c, rfl, h1, h2, h3⟩
    · rfl
    · exact absurd (h c (List.mem_of_getElem? h1)) h2
  · rcases b with ⟨rfl, h⟩ | ⟨k', c', rfl, g1, g2, g3⟩
    · exact absurd (h c (List.mem_of_getElem? h1)) h2
    · rcases Nat.lt_trichotomy k k' with q | q | q
      · exact absurd (g3 k c q h1) h2
      · rw [q]
      · exact absurd (h3 k' c' q g1) g2
theorem StepRes.uniq {cars : Nat} {cs : List Nat} {d e : PyData} (a : StepRes cars cs d) (b : StepRes cars cs e) : d = e := by
  rcases a with ⟨rfl, h⟩ | ⟨k, x, rfl, h1, h2, h3⟩
  · rcases b with ⟨rfl, _⟩ | ⟨k, x, rfl, h1, h2, h3⟩
    · rfl
    · rw [h k h1] at h2
      cases h2
  · rcases b with ⟨rfl, h⟩ | ⟨k', x', rfl, g1, g2, g3⟩
    · rw [h k h1] at h2
      cases h2
    · rcases Nat.lt_trichotomy k k' with q | q | q
      · rw [g3 k q] at h2; cases h2
      · subst q
        rw [h2] at g2
        cases g2
        rfl
      · rw [h3 k' q] at g2; cases g2
theorem WordRes.uniq {cars : Nat} {d r q : PyData} (a : WordRes cars d r) (b : WordRes cars d q) : r = q := by
  cases d with
  | str z =>
    rcases a with ⟨a, na⟩ | ⟨la, a⟩
    · rcases b with ⟨b, nb⟩ | ⟨lb, b⟩
      · exact a.uniq b
      · rcases a with ⟨e, _⟩ | ⟨k, c, _, h1, h2, _⟩
        · exact absurd e na
        · exact absurd (lb c (List.mem_of_getElem? h1)) h2
    · rcases b with ⟨b, nb⟩ | ⟨lb, b⟩
      · rcases b with ⟨e, _⟩ | ⟨k, c, _, h1, h2, _⟩
        · exact absurd e nb
        · exact absurd (la c (List.mem_of_getElem? h1)) h2
      · exact a.uniq b
  | none => exact (show r = _ from a).trans (show q = _ from b).symm
  | bool _ => exact (show r = _ from a).trans (show q = _ from b).symm
  | int _ => exact (show r = _ from a).trans (show q = _ from b).symm
  | list _ => exact (show r = _ from a).trans (show q = _ from b).symm
  | tuple _ => exact (show r = _ from a).trans (show q = _ from b).symm
  | dict _ => exact (show r = _ from a).trans (show q = _ from b).symm
/-- one sign against a written letter -/
theorem sign_eq {c k : Nat} {x : Str} (hx : x = ⟨#[k]⟩) : decide (V.str ⟨#[c]⟩ = V.str x) = decide (c = k) := by
  subst hx
  by_cases h : c = k
  · subst h; simp
  · have : ¬ V.str ⟨#[c]⟩ = V.str ⟨#[k]⟩ := fun z => by
      injection z with z
      injection z with z
      simp at z
      exact h z
    rw [decide_eq_false this, decide_eq_false h]
theorem str_a : ("a" : Str) = ⟨#[97]⟩ := by decide +kernel
theorem str_p : ("p" : Str) = ⟨#[112]⟩ := by decide +kernel
abbrev sLetter : Stmt := topS 1
abbrev nLetter : List Str := ["value", "index", "letter"]
theorem scLetter : FnScope nLetter ["value"] (defScope sLetter) :=
  ⟨rfl, rfl, rfl, by decide +kernel, rfl, by decide +kernel, by decide +kernel⟩
abbrev sStep : Stmt := topS 2
abbrev nStep : List Str := ["cars", "letters", "came", "passed", "index", "letter"]
theorem scStep : FnScope nStep ["cars", "letters"] (defScope sStep) :=
  ⟨rfl, rfl, rfl, by decide +kernel, rfl, by decide +kernel, by decide +kernel⟩
abbrev sWordE : Stmt := topS 3
abbrev nWordE : List Str := ["row", "value", "error"]
theorem scWordE : FnScope nWordE ["row", "value"] (defScope sWordE) :=
  ⟨rfl, rfl, rfl, by decide +kernel, rfl, by decide +kernel, by decide +kernel⟩
abbrev sIsHist : Stmt := topS 4
abbrev nIsHist : List Str := ["row", "value"]
theorem scIsHist : FnScope nIsHist ["row", "value"] (defScope sIsHist) :=
  ⟨rfl, rfl, rfl, by decide +kernel, rfl, by decide +kernel, by decide +kernel⟩
section
variable {P : Program} {w : World} {K : PySem.W.Frag} {mg : Str → Option Value} {base : Heap}
def spLetter : Sp := fun vs H Q _ => ∃ z : Str, vs = [.str z] ∧ ∀ v d H', Ex H H' → Dv H' v d → LetterRes (codes z) d → Q v H'
theorem ok_letter {f : Addr} {fd : FuncData} (F : Fun K "letter_error" "letter_error" sLetter f fd) (T : Blt mg) : FnOk P w K mg base CX0 1 f fd ["value"] spLetter := by
  refine F.ok scLetter (fun vs H Q E h => ?_) (fun cdv A outer s H vs Q E hr h => ?_)
  · obtain ⟨z, rfl, _⟩ := h
    rfl
  obtain ⟨z, rfl, k⟩ := h
  refine ⟨_, (pss_cons (ps_for PassesOwn.never rfl (pi_enumS rfl T.enumerate (pa_cons (pv 0) pa_nil)) (pg_tup rfl (pgs_cons (pg_name (i := 1) scLetter.nd rfl (Or.inl rfl)) (pgs_cons (pg_name (i := 2) scLetter.nd rfl (Or.inl rfl)) pgs_nil))) (pss_one (ps_if (PW.pt (pw_and (pt_cmpR op_ne (pv 2) pe_str (nomark _)) (pw_and1 (pt_cmpR op_ne (pv 2) pe_str (nomark _))))) (pss_one (ps_ret (pe_tup (pa_cons (pv 1) (pa_cons pe_str pa_nil))))) pss_nil)))
    (pss_one (ps_ret pe_non))), ?_⟩
  refine ⟨_, rfl, z, rfl, for_enumS (fun n σ H' => (∃ a b, σ = [some (.str z), a, b]) ∧ Ex H H' ∧ ∀ (j : Nat) (e : Nat), j < n → (codes z)[j]? = some e → LetterOk e) ⟨⟨_, _, rfl⟩, Evl.Ex.refl _, fun j e hj => absurd hj (Nat.not_lt_zero j)⟩ ?_ ?_⟩
  · rintro n c σ H2 H3 hc ⟨⟨a, b, rfl⟩, e, ok⟩ e3
    have hcc : (codes z)[n]? = some c := by rw [Array.getElem?_toList]; exact hc
    have next : LetterOk c → ∀ (j : Nat) (e : Nat), j < n + 1 → (codes z)[j]? = some e → LetterOk e := fun lo j e hj he => by
      by_cases q : j < n
      · exact ok j e q he
      · have : j = n := by omega
        subst this
        rw [hcc] at he
        cases he
        exact lo
    -- if letter != 'a' and letter != 'p'
    refine ⟨_, rfl, rfl, _, rfl, ?_⟩
    rw [sign_eq str_a]
    by_cases ha : c = 97
    · rw [decide_eq_true ha]
      refine iteF (iteF ⟨⟨_, _, rfl⟩, e.trans e3, next (.inl ha)⟩)
    · rw [decide_eq_false ha]
      refine iteT ⟨_, rfl, rfl, _, rfl, ?_⟩
      rw [sign_eq str_p]
      by_cases hp : c = 112
      · rw [decide_eq_true hp]
        exact iteF ⟨⟨_, _, rfl⟩, e.trans e3, next (.inr hp)⟩
      · rw [decide_eq_false hp]
        refine iteT ⟨_, rfl, (by show 2 ≤ sizeLine; decide), fun p hp2 => ?_⟩
        exact k _ _ _ ((e.trans e3).trans (Evl.Ex.new hp2)) (.tup upd_same (.cons (.int n) (.cons (.str _) .nil))) (.inr ⟨n, c, rfl, hcc, fun q => q.elim ha hp, ok⟩)
  · rintro σ H2 ⟨_, e, ok⟩
    refine k .non .none H2 e .non (.inl ⟨rfl, fun c hc => ?_⟩)
    obtain ⟨j, hj⟩ := List.mem_iff_getElem?.mp hc
    have hlt := (List.getElem?_eq_some_iff.mp hj).1
    exact ok j c (by simpa using hlt) hj
def spStep : Sp := fun vs H Q _ => ∃ (cars : Nat) (z : Str), vs = [.int cars, .str z] ∧ (∀ c ∈ codes z, LetterOk c) ∧ ∀ v d H', Ex H H' → Dv H' v d → StepRes cars (codes z) d → Q v H'
theorem count_take {cs : List Nat} {n c k : Nat} (h : cs[n]? = some c) : (cs.take (n + 1)).count k = (cs.take n).count k + (if c = k then 1 else 0) := by
  rw [List.take_succ, h, List.count_append]
  simp [List.count_cons]
theorem ok_step {f : Addr} {fd : FuncData} (F : Fun K "step_error" "step_error" sStep f fd) (T : Blt mg) : FnOk P w K mg base CX0 1 f fd ["cars", "letters"] spStep := by
  refine F.ok scStep (fun vs H Q E h => ?_) (fun cdv A outer s H vs Q E hr h => ?_)
  · obtain ⟨n, z, rfl, _⟩ := h
    rfl
  obtain ⟨cars, z, rfl, hok, k⟩ := h
  refine ⟨_, (pss_cons (ps_set (i := 2) scStep.nd rfl (Or.inl rfl) pe_int)
    (pss_cons (ps_set (i := 3) scStep.nd rfl (Or.inl rfl) pe_int)
    (pss_cons (ps_for PassesOwn.never rfl (pi_enumS rfl T.enumerate (pa_cons (pv 1) pa_nil)) (pg_tup rfl (pgs_cons (pg_name (i := 4) scStep.nd rfl (Or.inl rfl)) (pgs_cons (pg_name (i := 5) scStep.nd rfl (Or.inl rfl)) pgs_nil))) (pss_one (ps_if (pt_cmpR op_eq (pv 5) pe_str (nomark _)) (pss_cons (ps_if (pt_cmpR op_eq (pv 2) (pv 0) (nomark _)) (pss_one (ps_ret (pe_tup (pa_cons (pv 4) (pa_cons pe_str pa_nil))))) pss_nil)
        (pss_one (ps_aug (i := 2) scStep.nd rfl (Or.inl rfl) pe_int ip_add))) (pss_cons (ps_if (pt_cmpR op_eq (pv 3) (pv 2) (nomark _)) (pss_one (ps_ret (pe_tup (pa_cons (pv 4) (pa_cons pe_str pa_nil))))) pss_nil)
        (pss_one (ps_aug (i := 3) scStep.nd rfl (Or.inl rfl) pe_int ip_add))))))
    (pss_one (ps_ret pe_non))))), ?_⟩
  refine ⟨_, rfl, z, rfl, for_enumS (fun n σ H' => (∃ a b, σ = [some (.int cars), some (.str z), some (.int (((codes z).take n).count 97 : Nat)), some (.int (((codes z).take n).count 112 : Nat)), a, b]) ∧ Ex H H' ∧ ∀ j, j < n → badAt cars (codes z) j = none) ⟨⟨_, _, rfl⟩, Evl.Ex.refl _, fun j hj => absurd hj (Nat.not_lt_zero j)⟩ ?_ ?_⟩
  · rintro n c σ H2 H3 hc ⟨⟨a, b, rfl⟩, e, ok⟩ e3
    have hcc : (codes z)[n]? = some c := by rw [Array.getElem?_toList]; exact hc
    have hlt := (List.getElem?_eq_some_iff.mp hcc).1
    have next : badAt cars (codes z) n = none → ∀ j, j < n + 1 → badAt cars (codes z) j = none := fun lo j hj => by
      by_cases q : j < n
      · exact ok j q
      · have : j = n := by omega
        subst this
        exact lo
    have c97 := count_take (k := 97) hcc
    have c112 := count_take (k := 112) hcc
    -- if letter == 'a'
    refine ⟨_, rfl, rfl, _, rfl, ?_⟩
    rw [sign_eq str_a]
    by_cases ha : c = 97
    · subst ha
      rw [decide_eq_true rfl]
      rw [if_pos rfl] at c97
      rw [if_neg (by decide)] at c112
      refine iteT ⟨_, rfl, _, rfl, rfl, _, rfl, ?_⟩
      refine ite2 (fun hz => ?_) (fun hz => ?_)
      · have hz2 : ((codes z).take n).count 97 = cars := by
          have := V.int.inj (of_decide_eq_true hz)
          omega
        refine ⟨_, rfl, (by show 2 ≤ sizeLine; decide), fun p hp2 => ?_⟩
        refine k _ _ _ ((e.trans e3).trans (Evl.Ex.new hp2)) (.tup upd_same (.cons (.int n) (.cons (.str _) .nil))) (.inr ⟨n, "arrival", rfl, hlt, ?_, ok⟩)
        unfold badAt
        rw [if_pos hcc, if_pos hz2]
      · have hz2 : ¬ ((codes z).take n).count 97 = cars := fun q => hz (decide_eq_true (by rw [q]))
        refine ⟨_, rfl, _, _, rfl, rfl, ⟨some (.int n), some (.str ⟨#[97]⟩), ?_⟩, e.trans e3, next ?_⟩
        · rw [c97, c112]
          rfl
        · unfold badAt
          rw [if_pos hcc, if_neg hz2]
    · have hp : c = 112 := (hok c (List.mem_of_getElem? hcc)).resolve_left ha
      subst hp
      rw [decide_eq_false ha]
      rw [if_neg (by decide)] at c97
      rw [if_pos rfl] at c112
      have h97 : ¬ (codes z)[n]? = some 97 := by rw [hcc]; decide
      refine iteF ⟨_, rfl, _, rfl, rfl, _, rfl, ?_⟩
      refine ite2 (fun hz => ?_) (fun hz => ?_)
      · have hz2 : ((codes z).take n).count 112 = ((codes z).take n).count 97 := by
          have := V.int.inj (of_decide_eq_true hz)
          omega
        refine ⟨_, rfl, (by show 2 ≤ sizeLine; decide), fun p hp2 => ?_⟩
        refine k _ _ _ ((e.trans e3).trans (Evl.Ex.new hp2)) (.tup upd_same (.cons (.int n) (.cons (.str _) .nil))) (.inr ⟨n, "passing", rfl, hlt, ?_, ok⟩)
        unfold badAt
        rw [if_neg h97, if_pos hz2]
      · have hz2 : ¬ ((codes z).take n).count 112 = ((codes z).take n).count 97 := fun q => hz (decide_eq_true (by rw [q]))
        refine ⟨_, rfl, _, _, rfl, rfl, ⟨some (.int n), some (.str ⟨#[112]⟩), ?_⟩, e.trans e3, next ?_⟩
        · rw [c97, c112]
          rfl
        · unfold badAt
          rw [if_neg h97, if_neg hz2]
  · rintro σ H2 ⟨_, e, ok⟩
    exact k .non .none H2 e .non (.inl ⟨rfl, fun j hj => ok j (by simpa using hj)⟩)
/-- the row is a tuple of so many; the value may be anything -/
def spWordE : Sp := fun vs H Q _ => ∃ (a : Addr) (v : V) (xs : List V) (d : PyData), vs = [.ref a, v] ∧ H a = some (.tup xs) ∧ Dv H v d ∧ ∀ u r H', Ex H H' → Dv H' u r → WordRes xs.length d r → Q u H'
theorem not_str {cars : Nat} {d r : PyData} (h : isiD "str" d = false) (e : r = .tuple [.none, .str "string"]) : WordRes cars d r := by
  cases d with
  | str z => exact absurd h (by simp [isiD, kindD])
  | _ => exact e
theorem is_str {d : PyData} (h : isiD "str" d = true) : ∃ z, d = .str z := by
  cases d with
  | str z => exact ⟨z, rfl⟩
  | _ => exact absurd h (by simp [isiD, kindD])
theorem ok_wordE {f : Addr} {fd : FuncData} (F : Fun K "word_error" "word_error" sWordE f fd) (T : Blt mg) (cletter_error : Cal P w K mg base 1 "letter_error" ["value"] spLetter)
    (cstep_error : Cal P w K mg base 1 "step_error" ["cars", "letters"] spStep) : FnOk P w K mg base CX0 2 f fd ["row", "value"] spWordE := by
  refine F.ok scWordE (fun vs H Q E h => ?_) (fun cdv A outer s H vs Q E hr h => ?_)
  · obtain ⟨a, v, xs, d, rfl, _⟩ := h
    rfl
  obtain ⟨a, v, xs, d, rfl, ha, hd, k⟩ := h
  refine ⟨_, (pss_cons (ps_if (pt_not (pt_val (pe_callB (k_isi (K := K) rfl) rfl T.isinstance bt_isinstance (pa_cons (pv 1) (pa_cons (pe_bltn (v := .ty "str") rfl T.str (by decide +kernel) rfl) pa_nil))))) (pss_one (ps_ret (pe_tup (pa_cons pe_non (pa_cons pe_str pa_nil))))) pss_nil)
    (pss_cons (ps_set (i := 2) scWordE.nd rfl (Or.inl rfl) (pe_cal cletter_error (hr.mono (by decide)) rfl (pa_cons (pv 1) pa_nil)))
    (pss_cons (ps_if (pt_cmpR op_notN (pv 2) pe_non (nomark _)) (pss_one (ps_ret (pv 2))) pss_nil)
    (pss_one (ps_ret (pe_cal cstep_error (hr.mono (by decide)) rfl (pa_cons (pe_callB (k_len (K := K) rfl) rfl T.len bt_len (pa_cons (pv 0) pa_nil)) (pa_cons (pv 1) pa_nil)))))))), ?_⟩
  refine ⟨_, rfl, v, .ty "str", _, _, _, rfl, .ty "str", ty_of hd, kit_D "str" d, _, rfl, ?_⟩
  cases hs : isiD "str" d with
  | false =>
    refine iteT ⟨(by show 2 ≤ sizeLine; decide), fun p hp => ?_⟩
    exact k _ _ _ (Evl.Ex.new hp) (.tup upd_same (.cons .non (.cons (.str _) .nil))) (not_str hs rfl)
  | true =>
    obtain ⟨z, rfl⟩ := is_str hs
    cases hd
    refine iteF ⟨_, rfl, z, rfl, fun u r H1 e1 hu hR => ?_⟩
    refine ⟨_, rfl, rfl, _, rfl, ?_⟩
    rcases hR with ⟨rfl, ok⟩ | ⟨j, c, rfl, h1, h2, h3⟩
    · cases hu
      refine iteF ⟨_, rfl, a, xs, rfl, .inr (SqT.of (e1 _ _ ha)), _, rfl, xs.length, z, rfl, ok, fun u2 r2 H2 e2 hu2 hR2 => k _ _ _ (e1.trans e2) hu2 (.inr ⟨ok, hR2⟩)⟩
    · cases hu with
      | tup h t =>
        refine iteT ⟨_, rfl, k _ _ _ e1 (.tup h t) (.inl ⟨.inr ⟨j, c, rfl, h1, h2, h3⟩, tell_ne⟩)⟩
/-- whether it is a history -/
def HistRes (cars : Nat) (d : PyData) (b : Bool) : Prop := ∃ r, WordRes cars d r ∧ (b = true ↔ r = .none ∧ ∃ z, d = .str z ∧ z.length = 2 * cars)
def spIsHist : Sp := fun vs H Q _ => ∃ (a : Addr) (v : V) (xs : List V) (d : PyData), vs = [.ref a, v] ∧ H a = some (.tup xs) ∧ Dv H v d ∧ xs.length ≤ 1000 ∧ (∀ z, d = .str z → z.length ≤ 100000) ∧ ∀ b H', Ex H H' → HistRes xs.length d b → Q (.bl b) H'
theorem ok_isHist {f : Addr} {fd : FuncData} (F : Fun K "is_history" "is_history" sIsHist f fd) (T : Blt mg) (cword_error : Cal P w K mg base 2 "word_error" ["row", "value"] spWordE) :
    FnOk P w K mg base CX0 3 f fd ["row", "value"] spIsHist := by
  refine F.ok scIsHist (fun vs H Q E h => ?_) (fun cdv A outer s H vs Q E hr h => ?_)
  · obtain ⟨a, v, xs, d, rfl, _⟩ := h
    rfl
  obtain ⟨a, v, xs, d, rfl, ha, hd, hl, hz, k⟩ := h
  refine ⟨_, (pss_one (ps_ret (pe_and (pe_cmpR op_isN (pe_cal cword_error (hr.mono (by decide)) rfl (pa_cons (pv 0) (pa_cons (pv 1) pa_nil))) pe_non (nomark _)) (pe_one (pe_cmpR op_eq (pe_callB call_len_str rfl T.len bt_len (pa_cons (pv 1) pa_nil)) (pe_op op_mul pe_int (pe_callB (k_len (K := K) rfl) rfl T.len bt_len (pa_cons (pv 0) pa_nil))) (nomark _)))))), ?_⟩
  refine ⟨_, rfl, _, rfl, a, v, xs, d, rfl, ha, hd, fun u r H1 e1 hu hR => ⟨rfl, _, rfl, ?_⟩⟩
  by_cases hn : r = .none
  · subst hn
    cases hu
    refine iteT ?_
    obtain ⟨z, rfl⟩ : ∃ z, d = .str z := by
      cases d with
      | str z => exact ⟨z, rfl⟩
      | _ => exact absurd hR (fun z => nomatch z)
    cases hd
    refine ⟨_, rfl, z, rfl, Evl.sz_of (hz z rfl), _, rfl, a, xs, rfl, .inr (SqT.of (e1 _ _ ha)), _, _, rfl, rfl, .inl (by decide), rfl, k _ H1 e1 ⟨_, hR, ?_⟩⟩
    rw [decide_eq_true_iff]
    constructor
    · intro q
      have q2 := V.int.inj q
      exact ⟨rfl, z, rfl, by omega⟩
    · rintro ⟨_, z2, e2, q⟩
      cases e2
      exact congrArg V.int (by omega)
  · have nv : decide (u = V.non) = false := decide_eq_false (fun z => by subst z; cases hu; exact hn rfl)
    rw [nv]
    refine iteF (k false H1 e1 ⟨r, hR, ?_⟩)
    constructor
    · intro z; cases z
    · rintro ⟨z, _⟩; exact absurd z hn
end
end Lr

namespace Lr
open PySem L2 PySem.Spec PyProof.Rows
/-! ### a text as often as told -/
def rMulS : R2 := fun x y H Q => ∃ (z : Str) (n : Nat), x = .str z ∧ y = .int n ∧ z.length ≤ 1000 ∧ n ≤ 1000 ∧ Q (.str (Txt.mul z n)) H
theorem mulS_len {z : Str} {n : Nat} : (Txt.mul z (n : Int)).length = z.length * n := by
  unfold Txt.mul
  have fold : ∀ (k : Nat) (acc : Array Nat), ((List.replicate k z.cps).foldl (· ++ ·) acc).size = acc.size + z.cps.size * k := by
    intro k
    induction k with
    | zero => intro acc; simp
    | succ k ih =>
      intro acc
      rw [List.replicate_succ, List.foldl_cons, ih, Array.size_append, Nat.mul_succ]
      omega
  by_cases h1 : (n : Int) < 1
  · rw [if_pos h1]
    have : n = 0 := by omega
    subst this
    rfl
  · rw [if_neg h1]
    by_cases h2 : (((n : Int) == 1) || z.length == 0) = true
    · rw [if_pos h2]
      simp only [Bool.or_eq_true, beq_iff_eq] at h2
      rcases h2 with h2 | h2
      · have : n = 1 := by omega
        subst this
        simp
      · rw [h2]; simp
    · rw [if_neg h2, Int.toNat_natCast]
      show ((List.replicate n z.cps).foldl (· ++ ·) #[]).size = z.cps.size * n
      rw [fold]
      simp
theorem op_mulS {X : Cx} : OpR X (binaryOp .Mult) rMulS := by
  intro pins s σ H x y v u Q I rx ry h
  obtain ⟨z, n, rfl, rfl, hz, hn, q⟩ := h
  obtain ⟨t, rfl⟩ := rx
  obtain ⟨t2, rfl⟩ := ry
  have prod : z.length * n ≤ 1000000 := Nat.mul_le_mul hz hn
  refine PySem.SB.mul ⟨?_, fun h1 _ => ?_, fun _ _ => ?_⟩ fun t3 k => ⟨.str _, H, I.tok _, ⟨_, rfl⟩, q⟩
  · have a : ¬ ((n : Int) < -(2 ^ 63 : Int)) := by omega
    have b : ¬ ((n : Int) ≥ 2 ^ 63) := by omega
    rw [decide_eq_false a, decide_eq_false b]
    rfl
  · have hn1 : (1 : Int) ≤ n := by omega
    have : (1000 : Int) ≤ (2 ^ 63 - 1) / (n : Int) := by
      rw [Int.le_ediv_iff_mul_le (by omega)]
      omega
    omega
  · rw [Int.toNat_natCast]
    refine decide_eq_false ?_
    have : sizeLine = 16777216 := by decide
    omega
/-! ### a text backwards: some text that is no longer -/
def tRevS (te : TE) : TE := fun σ H Q => te σ H fun x H1 => ∃ z : Str, x = .str z ∧ z.length ≤ 100000 ∧ ∀ y : Str, y.length ≤ z.length → (∀ c ∈ y.cps.toList, c ∈ z.cps.toList) → Q (.str y) H1
theorem pe_revS {X : Cx} {e : Expr} {te : TE} {k : Nat} {p1 p2 p3 pos : Pos} (he : PE X e te) : PE X (.Subscript e (.Slice none none (some (.UnaryOp .USub (.Constant (.int 1) k p1) p2)) p3) pos) (tRevS te) := by
  refine ⟨fun pins s σ H Q I h => Subscript_ (thn (he.run pins s σ H _ I h) ?_)⟩
  rintro v s1 ⟨x, H1, I1, r1, z, rfl, hz, q⟩
  obtain ⟨t, rfl⟩ := r1
  have step : PO X (some (.UnaryOp .USub (.Constant (.int 1) k p1) p2)) (tPart (tUn (rU fun i => .int (-i)) (tC (.int 1)))) := po_some (pe_un un_neg pe_int)
  refine wpAny_Slice (thn (po_none.run pins s1 σ H1 (fun o G => o = none ∧ G = H1) I1 ⟨rfl, rfl⟩) ?_)
  rintro vl s2 ⟨l, H2, I2, pl, rfl, rfl⟩
  refine thn (po_none.run pins s2 σ H2 (fun o G => o = none ∧ G = H2) I2 ⟨rfl, rfl⟩) ?_
  rintro vu s3 ⟨u, H3, I3, pu, rfl, rfl⟩
  refine thn (step.run pins s3 σ H3 (fun o G => o = some (-1) ∧ G = H3) I3 ⟨1, rfl, -1, rfl, rfl, rfl⟩) ?_
  rintro vs s4 ⟨o, H4, I4, ps, rfl, rfl⟩
  have I5 : Inv X pins σ H4 { s4 with heap := s4.heap.push { cls := .type "slice", data := .fields #[vl, vu, vs] } } := I4.kept (t' := s4.toks) fun b ob q => Heap.get?_push_of_some _ q
  obtain ⟨l0, rfl, e1⟩ := IsPart.raw pl
  obtain ⟨u0, rfl, e2⟩ := IsPart.raw pu
  obtain ⟨st0, rfl, e3⟩ := IsPart.raw ps
  obtain ⟨sn, st⟩ : ∃ q : Tok, st0 = some (-1, q) := by
    cases st0 with
    | none => cases e3
    | some p =>
      obtain ⟨a, q⟩ := p
      simp at e3
      subst e3
      exact ⟨q, rfl⟩
  subst st
  have made : Txt.sliceBy z l0 u0 (-1, sn) = Txt.sliceBy z l0 u0 (-1, sn) := rfl
  have le := Txt.sliceBy_le z l0 u0 (-1, sn) (show (-1 : Int) ≠ 0 by decide)
  refine tail_any (ops := [.str z t, .ref s4.heap.objs.size]) (typeIs_str _ _ _) (F.slot_str_getitem.lookup) ?_ (by with_unfolding_all rfl)
  refine wpAny_getItem_str_slice (l := l0) (u := u0) (st := some (-1, sn)) ⟨_, Heap.get?_push_size _ rfl, rfl, rfl⟩ (show ((-1 : Int) == 0) = false by decide) ?_
  unfold Txt.sliceBy at le
  unfold sliceMade
  by_cases c : ((Option.map (fun x => x.fst) (some ((-1 : Int), sn))).getD 1 == 1 && (slicePicked z l0 u0 (some (-1, sn))).length == z.length) = true
  · rw [if_pos c]
    exact ⟨.str z, H4, I5, ⟨t, rfl⟩, q z (Nat.le_refl _) fun c hc => hc⟩
  · rw [if_neg c] at le ⊢
    refine ⟨Nat.le_trans le (Evl.sz_of hz), .str _, H4, I5.tok _, ⟨_, rfl⟩, q _ le fun c hc => ?_⟩
    have hc2 : c ∈ (slicePicked z l0 u0 (some (-1, sn))).filterMap (z.cps[·]?) := by simpa using hc
    obtain ⟨i, _, hi⟩ := List.mem_filterMap.mp hc2
    exact List.mem_of_getElem? (i := i) (by rw [Array.getElem?_toList]; exact hi)
end Lr

namespace Lr
open PySem L2
/-! ### days: true for a passing -/
def letV (b : Bool) : Str := if b then "p" else "a"
/-- no prefix has more passings than arrivals -/
def PreOk (bs : List Bool) : Prop := ∀ k, (bs.take k).count true ≤ (bs.take k).count false
theorem PreOk.snoc {bs : List Bool} {b : Bool} (h : PreOk bs) (hb : (bs ++ [b]).count true ≤ (bs ++ [b]).count false) : PreOk (bs ++ [b]) := fun k => by
  by_cases hk : k ≤ bs.length
  · rw [List.take_append_of_le_length hk]
    exact h k
  · rw [List.take_of_length_le (by simp; omega)]
    exact hb
def wordS (bs : List Bool) : Str := Txt.join "" (bs.map letV)
theorem letV_len (b : Bool) : (letV b).length = 1 := by cases b <;> decide
theorem join_cons {x y : Str} {r : List Str} : Str.join "" (x :: y :: r) = x ++ ("" : Str) ++ Str.join "" (y :: r) := rfl
theorem strjoin_len : ∀ bs : List Bool, (Str.join "" (bs.map letV)).length = bs.length
  | [] => by decide
  | [b] => letV_len b
  | b :: b2 :: r => by
    have ih := strjoin_len (b2 :: r)
    have z : (("" : String) : Str).length = 0 := by decide
    rw [List.map_cons] at ih
    rw [List.map_cons, List.map_cons, join_cons, Str.length_append, Str.length_append, letV_len, z, ih]
    simp
    omega
theorem wordS_len (bs : List Bool) : (wordS bs).length = bs.length := by
  unfold wordS Txt.join
  rw [StrLaws.glued_eq_join]
  exact strjoin_len bs
theorem count_two : ∀ bs : List Bool, bs.length = bs.count false + bs.count true
  | [] => rfl
  | b :: r => by
    have := count_two r
    cases b <;> simp <;> omega
theorem sum_ones : ∀ bs : List Bool, ((bs.map letV).map (·.length)).sum = bs.length
  | [] => rfl
  | b :: r => by
    have := sum_ones r
    simp only [List.map_cons, List.sum_cons, letV_len, this, List.length_cons]
    omega
abbrev sDay : Stmt := topS 12
abbrev nDay : List Str := ["_law_can", "_law_many", "_law_way", "_law_letters", "_law_here", "_law_left", "_law_goes"]
theorem scDay : FnScope nDay ["_law_can", "_law_many", "_law_way"] (defScope sDay) :=
  ⟨rfl, rfl, rfl, by decide +kernel, rfl, by decide +kernel, by decide +kernel⟩
section
variable {P : Program} {w : World} {K : PySem.W.Frag} {mg : Str → Option Value} {base : Heap}
def spDay (P : Program) (w : World) : Sp := fun vs H Q _ => ∃ (c : Addr) (n y : Nat), vs = [.ref c, .int n, .int y] ∧ Can P w H c ∧ n ≤ 1000 ∧ y < 5 ∧
  ∀ (bs : List Bool) H', Ex H H' → PreOk bs → bs.count false = n → bs.count true = n → Q (.str (wordS bs)) H'
theorem ok_day {f : Addr} {fd : FuncData} (F : Fun K "_law_day" "_law_day" sDay f fd) (T : Blt mg) (c_law_roll : Cal P w K mg base 1 "_law_roll" ["_law_can", "_law_many"] (spRoll P w)) :
    FnOk P w K mg base CX0 2 f fd ["_law_can", "_law_many", "_law_way"] (spDay P w) := by
  refine F.ok scDay (fun vs H Q E h => ?_) (fun cdv A outer s H vs Q E hr h => ?_)
  · obtain ⟨c, n, y, rfl, _⟩ := h
    rfl
  obtain ⟨c, n, y, rfl, C, hn, hy, k⟩ := h
  refine ⟨_, (pss_cons (ps_par3 (i := 3) (j := 4) (l := 5) rfl scDay.nd rfl rfl rfl (by decide) (by decide) (by decide) rfl rfl rfl (pa_cons (pe_lst pa_nil) (pa_cons pe_int (pa_cons (pv 1) pa_nil))) rfl)
    (pss_cons (ps_while PassesOwn.never (pt_cmpR op_gt (pe_op op_add (pv 5) (pv 4)) pe_int (nomark _)) (pss_cons (ps_set (i := 6) scDay.nd rfl (Or.inl rfl) (pe_ix (kx_list (K := K) rfl) (pe_lst (pa_cons (pe_cal c_law_roll (hr.mono (by decide)) rfl (pa_cons (pv 0) (pa_cons pe_int pa_nil))) (pa_cons pe_int (pa_cons pe_int (pa_cons (pe_callTy call_int1 rfl T.int bt_int (pa_cons (pe_cmpR op_gt (pe_cal c_law_roll (hr.mono (by decide)) rfl (pa_cons (pv 0) (pa_cons pe_int pa_nil))) pe_int (nomark _)) pa_nil)) (pa_cons (pe_callTy call_int1 rfl T.int bt_int (pa_cons (pe_cmpR op_gt (pv 4) pe_int (nomark _)) pa_nil)) pa_nil)))))) (pv 2) (fun _ _ => rfl)))
      (pss_one (ps_if (PW.pt (pw_or (pt_cmpR op_eq (pv 5) pe_int (nomark _)) (pw_or1 (PW.pt (pw_and (pt_cmpR op_gt (pv 4) pe_int (nomark _)) (pw_and1 (pt_cmpR op_eq (pv 6) pe_int (nomark _)))))))) (pss_cons (ps_expr (pe_bm PySem.F.plainAttrs_list PySem.F.slot_list_append PySem.F.type_list_append mt_append (pv 3) (pa_cons pe_str pa_nil)))
        (pss_one (ps_set (i := 4) scDay.nd rfl (Or.inl rfl) (pe_op op_sub (pv 4) pe_int)))) (pss_cons (ps_expr (pe_bm PySem.F.plainAttrs_list PySem.F.slot_list_append PySem.F.type_list_append mt_append (pv 3) (pa_cons pe_str pa_nil)))
        (pss_one (ps_par (i := 4) (j := 5) rfl scDay.nd rfl rfl (by decide) rfl rfl (pa_cons (pe_op op_add (pv 4) pe_int) (pa_cons (pe_op op_sub (pv 5) pe_int) pa_nil)) rfl)))))))
    (pss_one (ps_ret (pe_join pe_str (pv 3)))))), ?_⟩
  refine ⟨(by show 0 ≤ sizeLine; decide), fun l hl => ⟨_, rfl, _, _, _, rfl, ?_⟩⟩
  refine ⟨fun t σ H' => ∃ (bs : List Bool) (go : Option V), t = 2 * n - bs.length ∧ σ = [some (.ref c), some (.int n), some (.int y), some (.ref l), some (.int ((bs.count false : Int) - (bs.count true : Int))), some (.int ((n : Int) - (bs.count false : Int))), go] ∧
      H' l = some (.lst (bs.map fun b => V.str (letV b))) ∧ Ex H H' ∧ PreOk bs ∧ bs.count false ≤ n ∧ bs.count true ≤ bs.count false,
    ⟨_, [], none, rfl, by simp [L2.start], upd_same, Evl.Ex.new hl, fun k => by simp, by simp, by simp⟩, ?_⟩
  rintro t σ H' ⟨bs, go, rfl, rfl, h1, e, hpp, hf, ht⟩
  have hcnt := count_two bs
  generalize hA : bs.count false = A at *
  generalize hB : bs.count true = B at *
  -- while left + here > 0
  refine ⟨_, rfl, _, rfl, _, _, rfl, rfl, _, _, rfl, rfl, _, rfl, ?_⟩
  refine ite2 (fun hz => ?_) (fun hz => ?_)
  · have hz2 : (0 : Int) < (n : Int) - A + ((A : Int) - B) := of_decide_eq_true hz
    refine ⟨_, fun σ2 H2 h => h, ?_⟩
    refine ⟨_, rfl, c, 2, rfl, C.mono e, by decide, by decide, fun r1 H1 e1 a0 a1 => ⟨_, rfl, c, 5, rfl, C.mono (e.trans e1), by decide, by decide, fun r2 H2 e2 b0 b1 => ⟨_, _, rfl, rfl, .inr ⟨_, rfl, _, rfl, _, _, rfl, rfl, .inr ⟨_, rfl, (by show 5 ≤ sizeLine; decide), fun p hp => ?_⟩⟩⟩⟩⟩
    have el : H2 l = some (.lst (bs.map fun b => V.str (letV b))) := e2 _ _ (e1 _ _ h1)
    have el2 : ∀ o, upd H2 p o l = some (.lst (bs.map fun b => V.str (letV b))) := fun o => by rw [upd_ne (ne_of_none el hp)]; exact el
    obtain ⟨g, hg⟩ : ∃ g : Int, atI [V.int r1, V.int 1, V.int 0, V.int (if decide (0 < r2) = true then 1 else 0), V.int (if decide (2 < (A : Int) - B) = true then 1 else 0)] (y : Int) = some (.int g) := by
      have : y = 0 ∨ y = 1 ∨ y = 2 ∨ y = 3 ∨ y = 4 := by omega
      rcases this with rfl | rfl | rfl | rfl | rfl <;> exact ⟨_, rfl⟩
    refine ⟨_, rfl, p, _, _, _, rfl, rfl, SqL.of upd_same, hg, ?_⟩
    have ex : Ex H (upd H2 p (.lst [V.int r1, V.int 1, V.int 0, V.int (if decide (0 < r2) = true then 1 else 0), V.int (if decide (2 < (A : Int) - B) = true then 1 else 0)])) := ((e.trans e1).trans e2).trans (Evl.Ex.new hp)
    have el3 := el2 (.lst [V.int r1, V.int 1, V.int 0, V.int (if decide (0 < r2) = true then 1 else 0), V.int (if decide (2 < (A : Int) - B) = true then 1 else 0)])
    generalize upd H2 p (.lst [V.int r1, V.int 1, V.int 0, V.int (if decide (0 < r2) = true then 1 else 0), V.int (if decide (2 < (A : Int) - B) = true then 1 else 0)]) = G at ex el3 ⊢
    have small : (bs.map fun b => V.str (letV b)).length < sizeLine := by
      rw [List.length_map]
      exact Nat.lt_of_le_of_lt (by omega) (by decide : 2000 < sizeLine)
    have finP : B < A → ∃ m', m' < 2 * n - bs.length ∧ ∃ (bs2 : List Bool) (go : Option V), m' = 2 * n - bs2.length ∧
        [some (.ref c), some (.int n), some (.int y), some (.ref l), some (.int ((A : Int) - B - 1)), some (.int ((n : Int) - A)), some (.int g)] = [some (.ref c), some (.int n), some (.int y), some (.ref l), some (.int ((bs2.count false : Int) - (bs2.count true : Int))), some (.int ((n : Int) - (bs2.count false : Int))), go] ∧
        upd G l (.lst ((bs.map fun b => V.str (letV b)) ++ [V.str "p"])) l = some (.lst (bs2.map fun b => V.str (letV b))) ∧ Ex H (upd G l (.lst ((bs.map fun b => V.str (letV b)) ++ [V.str "p"]))) ∧ PreOk bs2 ∧ bs2.count false ≤ n ∧ bs2.count true ≤ bs2.count false := fun hab => by
      have ca : (bs ++ [true]).count false = A := by rw [List.count_append, hA]; simp
      have cb : (bs ++ [true]).count true = B + 1 := by rw [List.count_append, hB]; simp
      refine ⟨_, ?_, bs ++ [true], some (.int g), rfl, ?_, ?_, Evl.Ex.mut ex hl, hpp.snoc ?_, ?_, ?_⟩
      · simp; omega
      · rw [ca, cb]
        have : (A : Int) - ((B + 1 : Nat) : Int) = (A : Int) - B - 1 := by omega
        rw [this]
      · rw [upd_same, List.map_append]; rfl
      · rw [ca, cb]; omega
      · rw [ca]; exact hf
      · rw [ca, cb]; omega
    have finA : A < n → ∃ m', m' < 2 * n - bs.length ∧ ∃ (bs2 : List Bool) (go : Option V), m' = 2 * n - bs2.length ∧
        [some (.ref c), some (.int n), some (.int y), some (.ref l), some (.int ((A : Int) - B + 1)), some (.int ((n : Int) - A - 1)), some (.int g)] = [some (.ref c), some (.int n), some (.int y), some (.ref l), some (.int ((bs2.count false : Int) - (bs2.count true : Int))), some (.int ((n : Int) - (bs2.count false : Int))), go] ∧
        upd G l (.lst ((bs.map fun b => V.str (letV b)) ++ [V.str "a"])) l = some (.lst (bs2.map fun b => V.str (letV b))) ∧ Ex H (upd G l (.lst ((bs.map fun b => V.str (letV b)) ++ [V.str "a"]))) ∧ PreOk bs2 ∧ bs2.count false ≤ n ∧ bs2.count true ≤ bs2.count false := fun hab => by
      have ca : (bs ++ [false]).count false = A + 1 := by rw [List.count_append, hA]; simp
      have cb : (bs ++ [false]).count true = B := by rw [List.count_append, hB]; simp
      refine ⟨_, ?_, bs ++ [false], some (.int g), rfl, ?_, ?_, Evl.Ex.mut ex hl, hpp.snoc ?_, ?_, ?_⟩
      · simp; omega
      · rw [ca, cb]
        have h1 : ((A + 1 : Nat) : Int) - (B : Int) = (A : Int) - B + 1 := by omega
        have h2 : (n : Int) - ((A + 1 : Nat) : Int) = (n : Int) - A - 1 := by omega
        rw [h1, h2]
      · rw [upd_same, List.map_append]; rfl
      · rw [ca, cb]; omega
      · rw [ca]; omega
      · rw [ca, cb]; omega
    -- if left == 0 or (here > 0 and goes == 1)
    refine ⟨_, rfl, rfl, _, rfl, ?_⟩
    by_cases hleft : n = A
    · have : decide (V.int ((n : Int) - A) = V.int 0) = true := decide_eq_true (congrArg V.int (by omega))
      rw [this]
      refine iteT (iteT ⟨_, rfl, .inl ⟨rfl, _, SqL.of el3⟩, l, _, _, rfl, rfl, el3, small, _, rfl, _, _, rfl, rfl, finP (by omega)⟩)
    · have : decide (V.int ((n : Int) - A) = V.int 0) = false := decide_eq_false (fun q => hleft (by have := V.int.inj q; omega))
      rw [this]
      have goA := finA (by omega)
      refine iteF ⟨_, rfl, _, _, rfl, rfl, _, rfl, ?_⟩
      by_cases hh : B < A
      · have : decide ((0 : Int) < (A : Int) - B) = true := decide_eq_true (by omega)
        rw [this]
        refine iteT ⟨_, rfl, rfl, _, rfl, ?_⟩
        refine ite2 (fun _ => ?_) (fun _ => ?_)
        · exact ⟨_, rfl, .inl ⟨rfl, _, SqL.of el3⟩, l, _, _, rfl, rfl, el3, small, _, rfl, _, _, rfl, rfl, finP hh⟩
        · exact ⟨_, rfl, .inl ⟨rfl, _, SqL.of el3⟩, l, _, _, rfl, rfl, el3, small, _, rfl, _, _, rfl, rfl, _, rfl, _, _, rfl, rfl, _, _, rfl, goA⟩
      · have : decide ((0 : Int) < (A : Int) - B) = false := decide_eq_false (by omega)
        rw [this]
        refine iteF (iteF ?_)
        exact ⟨_, rfl, .inl ⟨rfl, _, SqL.of el3⟩, l, _, _, rfl, rfl, el3, small, _, rfl, _, _, rfl, rfl, _, rfl, _, _, rfl, rfl, _, _, rfl, goA⟩
  · have hz2 : ¬ (0 : Int) < (n : Int) - A + ((A : Int) - B) := fun q => hz (decide_eq_true q)
    refine ⟨⟨_, rfl⟩, _, rfl, _, l, bs.map letV, rfl, rfl, .inl (SqL.of (by rw [List.map_map]; exact h1)), ?_, ?_⟩
    · rw [sum_ones, List.length_map]
      have z : (("" : String) : Str).length = 0 := by decide
      rw [z]
      omega
    · exact k bs H' e hpp (by omega) (by omega)
end
end Lr

namespace Lr
open PySem L2
/-! ### what is known of data (B) while other things of the heap (H) may change: both grow, what is new in B is new in H -/
structure Grow (B H B' H' : Hp) : Prop where
  bb : Ex B B'
  bh : Ex B' H'
  hh : Ex H H'
  sep : ∀ a o, B' a = some o → B a = some o ∨ H a = none
theorem Grow.free {B H B' H' : Hp} (g : Grow B H B' H') {l : Addr} {o : HO} (h1 : B l = none) (h2 : H l = some o) : B' l = none := by
  cases q : B' l with
  | none => rfl
  | some u =>
    rcases g.sep l u q with z | z
    · rw [h1] at z; cases z
    · rw [h2] at z; cases z
def mix (B H H' : Hp) : Hp := fun a => if H a = none then H' a else B a
theorem mix_new {B H H' : Hp} {p : Addr} {o : HO} (h : H p = none) (h2 : H' p = some o) : mix B H H' p = some o := by
  unfold mix
  rw [if_pos h]
  exact h2
theorem mix_grow {B H H' : Hp} (b : Ex B H) (e : Ex H H') : Grow B H (mix B H H') H' := by
  refine ⟨fun a o h => ?_, fun a o h => ?_, e, fun a o h => ?_⟩
  · unfold mix
    rw [if_neg (by rw [b a o h]; exact fun z => nomatch z)]
    exact h
  · unfold mix at h
    by_cases q : H a = none
    · rw [if_pos q] at h; exact h
    · rw [if_neg q] at h; exact e a o (b a o h)
  · unfold mix at h
    by_cases q : H a = none
    · exact .inr q
    · rw [if_neg q] at h; exact .inl h
def oddD : List PyData := [.none, .bool true, .bool false, .int (-1), .int 0, .int 1, .int 6, .int 7, .int (10 ^ 39), .str "", .str "a", .str "ap", .str "0", .tuple [], .list [], .dict [], .tuple [.int 0], .list [.int 0], .tuple [.bool true], .tuple [.int 0, .int 1],
  .tuple [.str "a", .str "p"], .tuple [.int 1, .int 0], .str "none", .dict [(.str "a", .int 0)], .tuple [.tuple [.int 0], .tuple [.int 0]]]
theorem merge_one : mergeK [] [((Sum.inr "a" : Key), V.int 0)] = [((Sum.inr "a" : Key), V.int 0)] := by simp [mergeK, putK]
abbrev sOdd : Stmt := topS 13
abbrev nOdd : List Str := ["_law_can", "_law_items"]
theorem scOdd : FnScope nOdd ["_law_can"] (defScope sOdd) :=
  ⟨rfl, rfl, rfl, by decide +kernel, rfl, by decide +kernel, by decide +kernel⟩
section
variable {P : Program} {w : World} {K : PySem.W.Frag} {mg : Str → Option Value} {base : Heap}
def spOdd (P : Program) (w : World) : Sp := fun vs H Q _ => ∃ (c : Addr) (B : Hp), vs = [.ref c] ∧ Can P w H c ∧ Ex B H ∧ ∀ v d B' H', Grow B H B' H' → Dv B' v d → d ∈ oddD → Q v H'
theorem ok_odd {f : Addr} {fd : FuncData} (F : Fun K "_law_odd" "_law_odd" sOdd f fd) (T : Blt mg) (c_law_one : Cal P w K mg base 2 "_law_one" ["_law_can", "_law_items"] (spOne P w)) :
    FnOk P w K mg base CX0 3 f fd ["_law_can"] (spOdd P w) := by
  refine F.ok scOdd (fun vs H Q E h => ?_) (fun cdv A outer s H vs Q E hr h => ?_)
  · obtain ⟨c, B, rfl, _⟩ := h
    rfl
  obtain ⟨c, B, rfl, C, hB, k⟩ := h
  refine ⟨_, (pss_cons (ps_set (i := 1) scOdd.nd rfl (Or.inl rfl) (pe_lst (pa_cons pe_non (pa_cons pe_bl (pa_cons pe_bl (pa_cons (pe_un un_neg pe_int) (pa_cons pe_int (pa_cons pe_int (pa_cons pe_int (pa_cons pe_int (pa_cons (pe_op op_pow pe_int pe_int) (pa_cons pe_str (pa_cons pe_str (pa_cons pe_str (pa_cons pe_str (pa_cons (pe_tup pa_nil) (pa_cons (pe_lst pa_nil) (pa_cons pe_dnewK (pa_cons (pe_tup (pa_cons pe_int pa_nil)) (pa_cons (pe_lst (pa_cons pe_int pa_nil)) (pa_cons (pe_tup (pa_cons pe_bl pa_nil)) (pa_cons (pe_tup (pa_cons pe_int (pa_cons pe_int pa_nil))) pa_nil))))))))))))))))))))))
    (pss_one (ps_ret (pe_cal c_law_one (hr.mono (by decide)) rfl (pa_cons (pv 0) (pa_cons (pe_op op_cat (pv 1) (pe_lst (pa_cons (pe_tup (pa_cons pe_str (pa_cons pe_str pa_nil))) (pa_cons (pe_tup (pa_cons pe_int (pa_cons pe_int pa_nil))) (pa_cons pe_str (pa_cons (pe_disp (pps_cons pe_str pe_int pps_nil) (by rfl) (by rfl) (fun z => by cases z) (by decide)) (pa_cons (pe_tup (pa_cons (pe_tup (pa_cons pe_int pa_nil)) (pa_cons (pe_tup (pa_cons pe_int pa_nil)) pa_nil))) pa_nil))))))) pa_nil)))))), ?_⟩
  have z0 : 0 ≤ sizeLine := by decide
  have z1 : 1 ≤ sizeLine := by decide
  have z2 : 2 ≤ sizeLine := by decide
  refine ⟨1, rfl, _, _, rfl, rfl, ⟨by decide, by decide, by decide⟩, z0, fun p1 h1 => ⟨z0, fun p2 h2 => fun p3 h3 => ⟨z1, fun p4 h4 => ⟨z1, fun p5 h5 => ⟨z1, fun p6 h6 => ⟨z2, fun p7 h7 => ⟨(by show 20 ≤ sizeLine; decide), fun l1 hl1 => ?_⟩⟩⟩⟩⟩⟩⟩
  have e1 : Ex H (upd H p1 (.tup [])) := Evl.Ex.new h1
  have e2 := e1.trans (Evl.Ex.new h2 (o := .lst []))
  have e3 := e2.trans (Evl.Ex.new h3 (o := .dK []))
  have e4 := e3.trans (Evl.Ex.new h4 (o := .tup [.int 0]))
  have e5 := e4.trans (Evl.Ex.new h5 (o := .lst [.int 0]))
  have e6 := e5.trans (Evl.Ex.new h6 (o := .tup [.bl true]))
  have e7 := e6.trans (Evl.Ex.new h7 (o := .tup [.int 0, .int 1]))
  have n1 : H p1 = none := h1
  have n2 : H p2 = none := Evl.fresh_back e1 h2
  have n3 : H p3 = none := Evl.fresh_back e2 h3
  have n4 : H p4 = none := Evl.fresh_back e3 h4
  have n5 : H p5 = none := Evl.fresh_back e4 h5
  have n6 : H p6 = none := Evl.fresh_back e5 h6
  have n7 : H p7 = none := Evl.fresh_back e6 h7
  have f7 := Evl.Ex.new h7 (o := .tup [.int 0, .int 1])
  have f6 := (Evl.Ex.new h6 (o := .tup [.bl true])).trans f7
  have f5 := (Evl.Ex.new h5 (o := .lst [.int 0])).trans f6
  have f4 := (Evl.Ex.new h4 (o := .tup [.int 0])).trans f5
  have f3 := (Evl.Ex.new h3 (o := .dK [])).trans f4
  have f2 := (Evl.Ex.new h2 (o := .lst [])).trans f3
  have a1 := f2 _ _ (upd_same (H := H) (a := p1) (o := .tup []))
  have a2 := f3 _ _ (upd_same (a := p2) (o := .lst []))
  have a3 := f4 _ _ (upd_same (a := p3) (o := .dK []))
  have a4 := f5 _ _ (upd_same (a := p4) (o := .tup [.int 0]))
  have a5 := f6 _ _ (upd_same (a := p5) (o := .lst [.int 0]))
  have a6 := f7 _ _ (upd_same (a := p6) (o := .tup [.bl true]))
  have a7 : upd (upd (upd (upd (upd (upd (upd H p1 (.tup [])) p2 (.lst [])) p3 (.dK [])) p4 (.tup [.int 0])) p5 (.lst [.int 0])) p6 (.tup [.bl true])) p7 (.tup [.int 0, .int 1]) p7 = some (.tup [.int 0, .int 1]) := upd_same
  generalize upd (upd (upd (upd (upd (upd (upd H p1 (.tup [])) p2 (.lst [])) p3 (.dK [])) p4 (.tup [.int 0])) p5 (.lst [.int 0])) p6 (.tup [.bl true])) p7 (.tup [.int 0, .int 1]) = G1 at *
  -- the second list
  refine ⟨_, rfl, _, rfl, z2, fun q1 g1 => ⟨z2, fun q2 g2 => fun q3 g3 => ⟨upd_same, [((Sum.inr "a" : Key), V.int 0)], rfl, (by show 1 ≤ 15; decide), z1, fun q4 g4 => ⟨z1, fun q5 g5 => ⟨z2, fun q6 g6 => ⟨(by show 5 ≤ sizeLine; decide), fun l2 hl2 => ?_⟩⟩⟩⟩⟩⟩
  rw [merge_one] at *
  generalize hL : [V.non, V.bl true, V.bl false, V.int (-1), V.int 0, V.int 1, V.int 6, V.int 7, V.int (10 ^ (39 : Int).toNat), V.str "", V.str "a", V.str "ap", V.str "0", V.ref p1, V.ref p2, V.ref p3, V.ref p4, V.ref p5, V.ref p6, V.ref p7] = L1 at *
  have x0 : Ex G1 (upd G1 l1 (.lst L1)) := Evl.Ex.new hl1
  have al : upd G1 l1 (.lst L1) l1 = some (.lst L1) := upd_same
  generalize upd G1 l1 (.lst L1) = G2 at *
  have x1 : Ex G2 (upd G2 q1 (.tup [.str "a", .str "p"])) := Evl.Ex.new g1
  have x2 := x1.trans (Evl.Ex.new g2 (o := .tup [.int 1, .int 0]))
  have y3 : Ex (upd (upd G2 q1 (.tup [.str "a", .str "p"])) q2 (.tup [.int 1, .int 0])) (upd (upd (upd (upd G2 q1 (.tup [.str "a", .str "p"])) q2 (.tup [.int 1, .int 0])) q3 (.dK [])) q3 (.dK [((Sum.inr "a" : Key), V.int 0)])) := Evl.Ex.mut (Evl.Ex.new g3) g3
  have x3 := x2.trans y3
  have x4 := x3.trans (Evl.Ex.new g4 (o := .tup [.int 0]))
  have x5 := x4.trans (Evl.Ex.new g5 (o := .tup [.int 0]))
  have x6 := x5.trans (Evl.Ex.new g6 (o := .tup [.ref q4, .ref q5]))
  have t0 := e7.trans x0
  have m1 : H q1 = none := Evl.fresh_back t0 g1
  have m2 : H q2 = none := Evl.fresh_back (t0.trans x1) g2
  have m3 : H q3 = none := Evl.fresh_back (t0.trans x2) g3
  have m4 : H q4 = none := Evl.fresh_back (t0.trans x3) g4
  have m5 : H q5 = none := Evl.fresh_back (t0.trans x4) g5
  have m6 : H q6 = none := Evl.fresh_back (t0.trans x5) g6
  have w6 := Evl.Ex.new g6 (o := .tup [.ref q4, .ref q5])
  have w5 := (Evl.Ex.new g5 (o := .tup [.int 0])).trans w6
  have w4 := (Evl.Ex.new g4 (o := .tup [.int 0])).trans w5
  have w3 := y3.trans w4
  have w2 := (Evl.Ex.new g2 (o := .tup [.int 1, .int 0])).trans w3
  have b1 := w2 _ _ (upd_same (H := G2) (a := q1) (o := .tup [.str "a", .str "p"]))
  have b2 := w3 _ _ (upd_same (a := q2) (o := .tup [.int 1, .int 0]))
  have b3 := w4 _ _ (upd_same (a := q3) (o := .dK [((Sum.inr "a" : Key), V.int 0)]))
  have b4 := w5 _ _ (upd_same (a := q4) (o := .tup [.int 0]))
  have b5 := w6 _ _ (upd_same (a := q5) (o := .tup [.int 0]))
  have b6 : upd (upd (upd (upd (upd (upd (upd G2 q1 (.tup [.str "a", .str "p"])) q2 (.tup [.int 1, .int 0])) q3 (.dK [])) q3 (.dK [((Sum.inr "a" : Key), V.int 0)])) q4 (.tup [.int 0])) q5 (.tup [.int 0])) q6 (.tup [.ref q4, .ref q5]) q6 = some (.tup [.ref q4, .ref q5]) := upd_same
  generalize upd (upd (upd (upd (upd (upd (upd G2 q1 (.tup [.str "a", .str "p"])) q2 (.tup [.int 1, .int 0])) q3 (.dK [])) q3 (.dK [((Sum.inr "a" : Key), V.int 0)])) q4 (.tup [.int 0])) q5 (.tup [.int 0])) q6 (.tup [.ref q4, .ref q5]) = G3 at *
  have ll : L1.length = 20 := by rw [← hL]; rfl
  have nl : l1 ≠ l2 := ne_of_none (x6 _ _ al) hl2
  refine ⟨l1, l2, L1, _, rfl, rfl, by rw [upd_ne nl]; exact x6 _ _ al, upd_same, by rw [ll]; exact (by decide : 20 + 5 ≤ sizeLine), fun l3 hl3 => ?_⟩
  have x7 : Ex G3 (upd (upd G3 l2 (.lst [V.ref q1, V.ref q2, V.str "none", V.ref q3, V.ref q6])) l3 (.lst (L1 ++ [V.ref q1, V.ref q2, V.str "none", V.ref q3, V.ref q6]))) := (Evl.Ex.new hl2).trans (Evl.Ex.new hl3)
  refine ⟨c, l3, _, rfl, C.mono ((t0.trans x6).trans x7), upd_same, by simp, by simp [ll], fun v H' e hv => ?_⟩
  have eG : Ex G3 H' := x7.trans e
  have e1G : Ex G1 H' := (x0.trans x6).trans eG
  have all : DvAll (mix B H H') (L1 ++ [V.ref q1, V.ref q2, V.str "none", V.ref q3, V.ref q6]) oddD := by
    rw [← hL]
    have t {p : Addr} {o : HO} (n : H p = none) (hp : H' p = some o) : mix B H H' p = some o := mix_new n hp
    exact .cons .non (.cons (.bl _) (.cons (.bl _) (.cons (.int _) (.cons (.int _) (.cons (.int _) (.cons (.int _) (.cons (.int _) (.cons (.int _) (.cons (.str _) (.cons (.str _) (.cons (.str _) (.cons (.str _)
      (.cons (.tup (t n1 (e1G _ _ a1)) .nil) (.cons (.lst (t n2 (e1G _ _ a2)) .nil) (.cons (.dic (t n3 (e1G _ _ a3)) .nil) (.cons (.tup (t n4 (e1G _ _ a4)) (.cons (.int _) .nil)) (.cons (.lst (t n5 (e1G _ _ a5)) (.cons (.int _) .nil))
      (.cons (.tup (t n6 (e1G _ _ a6)) (.cons (.bl _) .nil)) (.cons (.tup (t n7 (e1G _ _ a7)) (.cons (.int _) (.cons (.int _) .nil)))
      (.cons (.tup (t m1 (eG _ _ b1)) (.cons (.str _) (.cons (.str _) .nil))) (.cons (.tup (t m2 (eG _ _ b2)) (.cons (.int _) (.cons (.int _) .nil))) (.cons (.str _) (.cons (.dic (t m3 (eG _ _ b3)) (.cons (k := Sum.inr "a") (.int _) .nil))
      (.cons (.tup (t m6 (eG _ _ b6)) (.cons (.tup (t m4 (eG _ _ b4)) (.cons (.int _) .nil)) (.cons (.tup (t m5 (eG _ _ b5)) (.cons (.int _) .nil)) .nil))) .nil))))))))))))))))))))))))
  obtain ⟨i, hi⟩ := List.mem_iff_getElem?.mp hv
  obtain ⟨d, hd, hdv⟩ := all.get hi
  exact k v d _ H' (mix_grow hB (((t0.trans x6).trans x7).trans e)) hdv (List.mem_of_getElem? hd)
end
end Lr

namespace Lr
open PySem L2
theorem cnt_count (c : Nat) : ∀ l : List Nat, PyProof.Rows.cnt c l = (l.count c : Int)
  | [] => rfl
  | n :: r => by
    rw [PyProof.Rows.cnt_cons, cnt_count c r, List.count_cons]
    by_cases h : n = c
    · subst h
      simp
      omega
    · simp [h]
theorem count_a {z : Str} : Txt.count z "a" = ((codes z).count 97 : Int) := by
  rw [str_a, PyProof.Rows.count_cnt, cnt_count]
theorem count_p {z : Str} : Txt.count z "p" = ((codes z).count 112 : Int) := by
  rw [str_p, PyProof.Rows.count_cnt, cnt_count]
theorem codes_cut {z : Str} {k : Nat} (h : k ≤ z.length) : codes (cutS z none (some (k : Int))) = (codes z).take k := by
  unfold cutS
  rw [HT.sIx_none, HT.sIx_nat, Nat.min_eq_left h]
  simp
theorem sign_in {c : Nat} : inV (V.str ⟨#[c]⟩) [V.str "a", V.str "p"] = (decide (c = 97) || decide (c = 112)) := by
  have ea : eqV (V.str "a") (V.str ⟨#[c]⟩) = decide (c = 97) := by
    show (("a" : Str) == ⟨#[c]⟩) = _
    rw [str_a]
    by_cases h : c = 97
    · subst h; simp
    · have : ¬ (⟨#[97]⟩ : Str) = ⟨#[c]⟩ := fun z => h (by injection z with z; simpa using z.symm)
      rw [decide_eq_false h]
      exact beq_eq_false_iff_ne.mpr this
  have ep : eqV (V.str "p") (V.str ⟨#[c]⟩) = decide (c = 112) := by
    show (("p" : Str) == ⟨#[c]⟩) = _
    rw [str_p]
    by_cases h : c = 112
    · subst h; simp
    · have : ¬ (⟨#[112]⟩ : Str) = ⟨#[c]⟩ := fun z => h (by injection z with z; simpa using z.symm)
      rw [decide_eq_false h]
      exact beq_eq_false_iff_ne.mpr this
  unfold inV
  simp [ea, ep]
theorem at_code {z : Str} {n : Nat} (h : n < z.cps.size) : ∃ c, (codes z)[n]? = some c ∧ atI z.cps.toList (n : Int) = some c := by
  have hl : n < (codes z).length := by simpa using h
  exact ⟨(codes z)[n], List.getElem?_eq_getElem hl, atI_nat (List.getElem?_eq_getElem hl)⟩
abbrev sFault : Stmt := topS 14
abbrev nFault : List Str := ["_law_row", "_law_value", "_law_at", "_law_front"]
theorem scFault : FnScope nFault ["_law_row", "_law_value"] (defScope sFault) :=
  ⟨rfl, rfl, rfl, by decide +kernel, rfl, by decide +kernel, by decide +kernel⟩
section
variable {P : Program} {w : World} {K : PySem.W.Frag} {mg : Str → Option Value} {base : Heap}
def spFault : Sp := fun vs H Q _ => ∃ (a : Addr) (v : V) (xs : List V) (d : PyData), vs = [.ref a, v] ∧ H a = some (.tup xs) ∧ Dv H v d ∧ (∀ z, d = .str z → z.length ≤ 100000) ∧ ∀ u r H', Ex H H' → Dv H' u r → WordRes xs.length d r → Q u H'
theorem ok_fault {f : Addr} {fd : FuncData} (F : Fun K "_law_fault" "_law_fault" sFault f fd) (T : Blt mg) : FnOk P w K mg base CX0 1 f fd ["_law_row", "_law_value"] spFault := by
  refine F.ok scFault (fun vs H Q E h => ?_) (fun cdv A outer s H vs Q E hr h => ?_)
  · obtain ⟨a, v, xs, d, rfl, _⟩ := h
    rfl
  obtain ⟨a, v, xs, d, rfl, ha, hd, hz, k⟩ := h
  refine ⟨_, (pss_cons (ps_if (pt_not (pt_val (pe_callB (k_isi (K := K) rfl) rfl T.isinstance bt_isinstance (pa_cons (pv 1) (pa_cons (pe_bltn (v := .ty "str") rfl T.str (by decide +kernel) rfl) pa_nil))))) (pss_one (ps_ret (pe_tup (pa_cons pe_non (pa_cons pe_str pa_nil))))) pss_nil)
    (pss_cons (ps_for PassesOwn.never rfl (pi_range1 rfl T.range (pa_cons (pe_callB call_len_str rfl T.len bt_len (pa_cons (pv 1) pa_nil)) pa_nil)) (pg_name (i := 2) scFault.nd rfl (Or.inl rfl)) (pss_one (ps_if (pt_cmpR (ko_notIn (K := K) rfl) (pe_ix ix_str (pv 1) (pv 2) (fun _ _ => rfl)) (pe_lst (pa_cons pe_str (pa_cons pe_str pa_nil))) (by rfl)) (pss_one (ps_ret (pe_tup (pa_cons (pv 2) (pa_cons pe_str pa_nil))))) pss_nil)))
    (pss_cons (ps_for PassesOwn.never rfl (pi_range1 rfl T.range (pa_cons (pe_callB call_len_str rfl T.len bt_len (pa_cons (pv 1) pa_nil)) pa_nil)) (pg_name (i := 2) scFault.nd rfl (Or.inl rfl)) (pss_cons (ps_set (i := 3) scFault.nd rfl (Or.inl rfl) (pe_slice sl_str (pv 1) po_none (po_some (pv 2))))
      (pss_cons (ps_if (PW.pt (pw_and (pt_cmpR op_eq (pe_ix ix_str (pv 1) (pv 2) (fun _ _ => rfl)) pe_str (nomark _)) (pw_and1 (pt_cmpR op_eq (pe_m1 PySem.F.slot_str_count PySem.F.type_str_count mt_count (pv 3) pe_str) (pe_callB (k_len (K := K) rfl) rfl T.len bt_len (pa_cons (pv 0) pa_nil)) (nomark _))))) (pss_one (ps_ret (pe_tup (pa_cons (pv 2) (pa_cons pe_str pa_nil))))) pss_nil)
      (pss_one (ps_if (PW.pt (pw_and (pt_cmpR op_eq (pe_ix ix_str (pv 1) (pv 2) (fun _ _ => rfl)) pe_str (nomark _)) (pw_and1 (pt_cmpR op_eq (pe_m1 PySem.F.slot_str_count PySem.F.type_str_count mt_count (pv 3) pe_str) (pe_m1 PySem.F.slot_str_count PySem.F.type_str_count mt_count (pv 3) pe_str) (nomark _))))) (pss_one (ps_ret (pe_tup (pa_cons (pv 2) (pa_cons pe_str pa_nil))))) pss_nil)))))
    (pss_one (ps_ret pe_non))))), ?_⟩
  refine ⟨_, rfl, v, .ty "str", _, _, _, rfl, .ty "str", ty_of hd, kit_D "str" d, _, rfl, ?_⟩
  cases hs : isiD "str" d with
  | false =>
    refine iteT ⟨(by show 2 ≤ sizeLine; decide), fun p hp => ?_⟩
    exact k _ _ _ (Evl.Ex.new hp) (.tup upd_same (.cons .non (.cons (.str _) .nil))) (not_str hs rfl)
  | true =>
    obtain ⟨z, rfl⟩ := is_str hs
    cases hd
    have hzl := hz z rfl
    have hsz := Evl.sz_of hzl
    refine iteF ⟨_, rfl, z, rfl, hsz, z.length, rfl, by omega, by omega, ?_⟩
    rw [Int.toNat_natCast]
    -- the letters
    refine for_range (fun n σ H' => (∃ x, σ = [some (.ref a), some (.str z), x, none]) ∧ Ex H H' ∧ ∀ (j : Nat) (e : Nat), j < n → (codes z)[j]? = some e → LetterOk e) ⟨⟨_, rfl⟩, Evl.Ex.refl _, fun j e hj => absurd hj (Nat.not_lt_zero j)⟩ ?_ ?_
    · rintro n σ H2 hn ⟨⟨x, rfl⟩, e, ok⟩
      obtain ⟨c, hc, hat⟩ := at_code hn
      have e0 : (0 : Int) + (n : Int) = (n : Int) := Int.zero_add _
      rw [e0]
      refine ⟨_, rfl, _, rfl, z, _, c, rfl, rfl, hsz, hat, (by show 2 ≤ sizeLine; decide), fun p hp => ⟨p, _, rfl, .inl (SqL.of upd_same), rfl, rfl, _, rfl, ?_⟩⟩
      have en : (if true = true then !inV (V.str ⟨#[c]⟩) [V.str "a", V.str "p"] else inV (V.str ⟨#[c]⟩) [V.str "a", V.str "p"]) = !(decide (c = 97) || decide (c = 112)) := by rw [sign_in]; rfl
      rw [en]
      by_cases hl : LetterOk c
      · have : (!(decide (c = 97) || decide (c = 112))) = false := by rcases hl with h | h <;> simp [h]
        rw [this]
        refine iteF ⟨⟨_, rfl⟩, e.trans (Evl.Ex.new hp), fun j e2 hj he => ?_⟩
        by_cases q : j < n
        · exact ok j e2 q he
        · have : j = n := by omega
          subst this
          rw [hc] at he
          cases he
          exact hl
      · have : (!(decide (c = 97) || decide (c = 112))) = true := by
          have h1 : ¬ c = 97 := fun q => hl (.inl q)
          have h2 : ¬ c = 112 := fun q => hl (.inr q)
          simp [h1, h2]
        rw [this]
        refine iteT ⟨_, rfl, (by show 2 ≤ sizeLine; decide), fun p2 hp2 => ?_⟩
        exact k _ _ _ ((e.trans (Evl.Ex.new hp)).trans (Evl.Ex.new hp2)) (.tup upd_same (.cons (.int n) (.cons (.str _) .nil))) (.inl ⟨.inr ⟨n, c, rfl, hc, hl, ok⟩, tell_ne⟩)
    · rintro σ H2 ⟨⟨x, rfl⟩, e, ok⟩
      have all : ∀ c ∈ codes z, LetterOk c := fun c hc => by
        obtain ⟨j, hj⟩ := List.mem_iff_getElem?.mp hc
        have hlt := (List.getElem?_eq_some_iff.mp hj).1
        exact ok j c (show j < z.cps.size by simpa using hlt) hj
      refine ⟨_, rfl, z, rfl, hsz, z.length, rfl, by omega, by omega, ?_⟩
      rw [Int.toNat_natCast]
      -- the steps
      refine for_range (fun n σ H' => (∃ x y, σ = [some (.ref a), some (.str z), x, y]) ∧ Ex H H' ∧ ∀ j, j < n → badAt xs.length (codes z) j = none) ⟨⟨_, _, rfl⟩, e, fun j hj => absurd hj (Nat.not_lt_zero j)⟩ ?_ ?_
      · rintro n σ H3 hn ⟨⟨x, y, rfl⟩, e3, bad⟩
        obtain ⟨c, hc, hat⟩ := at_code hn
        have e0 : (0 : Int) + (n : Int) = (n : Int) := Int.zero_add _
        rw [e0]
        have hcut := codes_cut (z := z) (k := n) (Nat.le_of_lt hn)
        have hlt := (List.getElem?_eq_some_iff.mp hc).1
        have next : badAt xs.length (codes z) n = none → ∀ j, j < n + 1 → badAt xs.length (codes z) j = none := fun lo j hj => by
          by_cases q : j < n
          · exact bad j q
          · have : j = n := by omega
            subst this
            exact lo
        refine ⟨_, rfl, _, rfl, _, rfl, z, rfl, hsz, ?_⟩
        generalize hfr : cutS z none (some (n : Int)) = fr at hcut ⊢
        -- if value[at] == 'a' and front.count('a') == len(row)
        refine ⟨_, rfl, _, rfl, z, _, c, rfl, rfl, hsz, hat, rfl, _, rfl, ?_⟩
        rw [sign_eq str_a]
        by_cases hA : c = 97
        · subst hA
          rw [decide_eq_true rfl]
          refine iteT ⟨_, rfl, ⟨_, rfl⟩, fr, "a", rfl, rfl, _, rfl, a, xs, rfl, .inr (SqT.of (e3 _ _ ha)), rfl, _, rfl, ?_⟩
          rw [count_a, hcut]
          refine ite2 (fun hq => ?_) (fun hq => ?_)
          · have hq2 : ((codes z).take n).count 97 = xs.length := by
              have := V.int.inj (of_decide_eq_true hq)
              omega
            refine ⟨_, rfl, (by show 2 ≤ sizeLine; decide), fun p2 hp2 => ?_⟩
            refine k _ _ _ (e3.trans (Evl.Ex.new hp2)) (.tup upd_same (.cons (.int n) (.cons (.str _) .nil))) (.inr ⟨all, .inr ⟨n, "arrival", rfl, hlt, ?_, bad⟩⟩)
            unfold badAt
            rw [if_pos hc, if_pos hq2]
          · have hq2 : ¬ ((codes z).take n).count 97 = xs.length := fun q => hq (decide_eq_true (by rw [q]))
            -- the second test is not
            refine ⟨_, rfl, _, rfl, z, _, 97, rfl, rfl, hsz, hat, rfl, _, rfl, ?_⟩
            rw [sign_eq str_p]
            refine iteF (iteF ⟨⟨_, _, rfl⟩, e3, next ?_⟩)
            unfold badAt
            rw [if_pos hc, if_neg hq2]
        · have hP : c = 112 := (all c (List.mem_of_getElem? hc)).resolve_left hA
          subst hP
          rw [decide_eq_false hA]
          have h97 : ¬ (codes z)[n]? = some 97 := by rw [hc]; decide
          refine iteF (iteF ⟨_, rfl, _, rfl, z, _, 112, rfl, rfl, hsz, hat, rfl, _, rfl, ?_⟩)
          rw [sign_eq str_p, decide_eq_true rfl]
          refine iteT ⟨_, rfl, ⟨_, rfl⟩, fr, "p", rfl, rfl, _, rfl, ⟨_, rfl⟩, fr, "a", rfl, rfl, rfl, _, rfl, ?_⟩
          rw [count_a, count_p, hcut]
          refine ite2 (fun hq => ?_) (fun hq => ?_)
          · have hq2 : ((codes z).take n).count 112 = ((codes z).take n).count 97 := by
              have := V.int.inj (of_decide_eq_true hq)
              omega
            refine ⟨_, rfl, (by show 2 ≤ sizeLine; decide), fun p2 hp2 => ?_⟩
            refine k _ _ _ (e3.trans (Evl.Ex.new hp2)) (.tup upd_same (.cons (.int n) (.cons (.str _) .nil))) (.inr ⟨all, .inr ⟨n, "passing", rfl, hlt, ?_, bad⟩⟩)
            unfold badAt
            rw [if_neg h97, if_pos hq2]
          · have hq2 : ¬ ((codes z).take n).count 112 = ((codes z).take n).count 97 := fun q => hq (decide_eq_true (by rw [q]))
            refine ⟨⟨_, _, rfl⟩, e3, next ?_⟩
            unfold badAt
            rw [if_neg h97, if_neg hq2]
      · rintro σ H3 ⟨_, e3, bad⟩
        exact k .non .none H3 e3 .non (.inr ⟨all, .inl ⟨rfl, fun j hj => bad j (show j < z.cps.size by simpa using hj)⟩⟩)
end
end Lr

namespace Lr
open PySem L2
/-- a text of at most n signs that are signs -/
def Plain (n : Nat) (z : Str) : Prop := z.length ≤ n ∧ ∀ c ∈ codes z, c < 1114112
def Short (n : Nat) (v : V) : Prop := ∃ y : Str, v = .str y ∧ Plain n y
theorem Plain.le {n m : Nat} {z : Str} (h : Plain n z) (hm : n ≤ m) : Plain m z := ⟨Nat.le_trans h.1 hm, h.2⟩
theorem cut_le {z : Str} {lo hi : Option Int} : (cutS z lo hi).length ≤ z.length := cutS_length z lo hi
theorem Plain.cut {n : Nat} {z : Str} (h : Plain n z) (lo hi : Option Int) : Plain n (cutS z lo hi) := by
  refine ⟨Nat.le_trans cut_le h.1, fun c hc => h.2 c ?_⟩
  have hc2 : c ∈ (z.cps.toList.drop (HT.sIx z.length 0 lo)).take (HT.sIx z.length z.length hi - HT.sIx z.length 0 lo) := by simpa [cutS] using hc
  exact List.mem_of_mem_drop (List.mem_of_mem_take hc2)
theorem Plain.app {n m : Nat} {x y : Str} (hx : Plain n x) (hy : Plain m y) : Plain (n + m) (x ++ y) := by
  refine ⟨by rw [Str.length_append]; exact Nat.add_le_add hx.1 hy.1, fun c hc => ?_⟩
  have hc2 : c ∈ codes x ++ codes y := by
    have e : codes (x ++ y) = codes x ++ codes y := Array.toList_append
    rw [e] at hc
    exact hc
  rcases List.mem_append.mp hc2 with q | q
  · exact hx.2 c q
  · exact hy.2 c q
abbrev sTwisted : Stmt := topS 15
abbrev nTwisted : List Str := ["_law_can", "_law_word", "_law_at", "_law_sign", "_law_some"]
theorem scTwisted : FnScope nTwisted ["_law_can", "_law_word"] (defScope sTwisted) :=
  ⟨rfl, rfl, rfl, by decide +kernel, rfl, by decide +kernel, by decide +kernel⟩
section
variable {P : Program} {w : World} {K : PySem.W.Frag} {mg : Str → Option Value} {base : Heap}
def spTwist (P : Program) (w : World) : Sp := fun vs H Q _ => ∃ (c : Addr) (z : Str) (n : Nat), vs = [.ref c, .str z] ∧ Can P w H c ∧ n ≤ 10000 ∧ Plain n z ∧ ∀ (y : Str) H', Ex H H' → Plain (2 * n + 2) y → Q (.str y) H'
theorem ok_twist {f : Addr} {fd : FuncData} (F : Fun K "_law_twisted" "_law_twisted" sTwisted f fd) (T : Blt mg) (c_law_roll : Cal P w K mg base 1 "_law_roll" ["_law_can", "_law_many"] (spRoll P w))
    (c_law_one : Cal P w K mg base 2 "_law_one" ["_law_can", "_law_items"] (spOne P w)) : FnOk P w K mg base CX0 3 f fd ["_law_can", "_law_word"] (spTwist P w) := by
  refine F.ok scTwisted (fun vs H Q E h => ?_) (fun cdv A outer s H vs Q E hr h => ?_)
  · obtain ⟨c, z, n, rfl, _⟩ := h
    rfl
  obtain ⟨c, z, n, rfl, C, hn, pz, k⟩ := h
  have hz : z.length ≤ 10000 := Nat.le_trans pz.1 hn
  refine ⟨_, (pss_cons (ps_set (i := 2) scTwisted.nd rfl (Or.inl rfl) (pe_cal c_law_roll (hr.mono (by decide)) rfl (pa_cons (pv 0) (pa_cons (pe_op op_add (pe_callB call_len_str rfl T.len bt_len (pa_cons (pv 1) pa_nil)) pe_int) pa_nil))))
    (pss_cons (ps_set (i := 3) scTwisted.nd rfl (Or.inl rfl) (pe_cal c_law_one (hr.mono (by decide)) rfl (pa_cons (pv 0) (pa_cons (pe_lst (pa_cons pe_str (pa_cons pe_str (pa_cons pe_str (pa_cons pe_str (pa_cons pe_str (pa_cons pe_str (pa_cons pe_str (pa_cons pe_str (pa_cons pe_str pa_nil)))))))))) pa_nil))))
    (pss_cons (ps_set (i := 4) scTwisted.nd rfl (Or.inl rfl) (pe_lst (pa_cons (pe_op op_add_str (pe_op op_add_str (pe_slice sl_str (pv 1) po_none (po_some (pv 2))) (pv 3)) (pe_slice sl_str (pv 1) (po_some (pv 2)) po_none)) (pa_cons (pe_op op_add_str (pe_op op_add_str (pe_slice sl_str (pv 1) po_none (po_some (pv 2))) (pv 3)) (pe_slice sl_str (pv 1) (po_some (pe_op op_add (pv 2) pe_int)) po_none)) (pa_cons (pe_op op_add_str (pe_slice sl_str (pv 1) po_none (po_some (pv 2))) (pe_slice sl_str (pv 1) (po_some (pe_op op_add (pv 2) pe_int)) po_none)) (pa_cons (pe_revS (pv 1)) pa_nil))))))
    (pss_one (ps_ret (pe_cal c_law_one (hr.mono (by decide)) rfl (pa_cons (pv 0) (pa_cons (pe_op op_cat (pv 4) (pe_lst (pa_cons (pe_slice sl_str (pv 1) po_none (po_some (pv 2))) (pa_cons (pe_op op_add_str (pv 1) (pv 3)) (pa_cons (pe_op op_add_str (pe_slice sl_str (pv 1) (po_some (pv 2)) po_none) (pe_slice sl_str (pv 1) po_none (po_some (pv 2)))) pa_nil))))) pa_nil)))))))), ?_⟩
  have hsz : z.length ≤ sizeLine := Evl.sz_of (by omega)
  have sz : ∀ {n : Nat}, n ≤ 100000 → n ≤ sizeLine := fun h => Evl.sz_of h
  -- at = roll(can, len(word) + 1)
  refine ⟨_, rfl, _, rfl, z, rfl, hsz, _, _, rfl, rfl, c, _, rfl, C, by omega, by omega, fun r H1 e1 r0 r1 => ?_⟩
  -- sign = one(can, ..)
  refine ⟨_, rfl, (by show 9 ≤ sizeLine; decide), fun p hp => ⟨c, p, _, rfl, C.mono (e1.trans (Evl.Ex.new hp)), upd_same, by decide, by decide, fun sv H2 e2 hv => ?_⟩⟩
  obtain ⟨sg, rfl, psg⟩ : Short 2 sv := by
    simp only [List.mem_cons, List.not_mem_nil, or_false] at hv
    rcases hv with rfl | rfl | rfl | rfl | rfl | rfl | rfl | rfl | rfl <;> exact ⟨_, rfl, by decide, by decide⟩
  have hsg := psg.1
  have ex : Ex H H2 := (e1.trans (Evl.Ex.new hp)).trans e2
  have a1 : (cutS z none (some r)).length ≤ z.length := cut_le
  have a2 : (cutS z (some r) none).length ≤ z.length := cut_le
  have a3 : (cutS z (some (r + 1)) none).length ≤ z.length := cut_le
  -- some = [..]
  refine ⟨_, rfl, _, rfl, _, rfl, z, rfl, hsz, _, rfl, _, _, rfl, rfl, sz (by omega), _, rfl, _, rfl, _, rfl, z, rfl, hsz, _, _, rfl, rfl, sz (by simp only [Str.length_append]; omega), ?_⟩
  refine ⟨_, rfl, _, rfl, _, rfl, z, rfl, hsz, _, rfl, _, _, rfl, rfl, sz (by omega), _, rfl, _, rfl, _, _, rfl, rfl, _, rfl, z, rfl, hsz, _, _, rfl, rfl, sz (by simp only [Str.length_append]; omega), ?_⟩
  refine ⟨_, rfl, _, rfl, _, rfl, z, rfl, hsz, _, rfl, _, rfl, _, _, rfl, rfl, _, rfl, z, rfl, hsz, _, _, rfl, rfl, sz (by omega), ?_⟩
  refine ⟨_, rfl, z, rfl, by omega, fun y hy hyc => ⟨(by show 4 ≤ sizeLine; decide), fun l1 hl1 => ?_⟩⟩
  generalize hL : [V.str (cutS z none (some r) ++ sg ++ cutS z (some r) none), V.str (cutS z none (some r) ++ sg ++ cutS z (some (r + 1)) none), V.str (cutS z none (some r) ++ cutS z (some (r + 1)) none), V.str y] = L1 at *
  have sL : ∀ v ∈ L1, Short (2 * n + 2) v := by
    rw [← hL]
    intro v hv
    simp only [List.mem_cons, List.not_mem_nil, or_false] at hv
    rcases hv with rfl | rfl | rfl | rfl
    · exact ⟨_, rfl, (((pz.cut _ _).app psg).app (pz.cut _ _)).le (by omega)⟩
    · exact ⟨_, rfl, (((pz.cut _ _).app psg).app (pz.cut _ _)).le (by omega)⟩
    · exact ⟨_, rfl, ((pz.cut _ _).app (pz.cut _ _)).le (by omega)⟩
    · exact ⟨_, rfl, Nat.le_trans hy (Nat.le_trans pz.1 (by omega)), fun c hc => pz.2 c (hyc c hc)⟩
  have lL : L1.length = 4 := by rw [← hL]; rfl
  have x1 : Ex H2 (upd H2 l1 (.lst L1)) := Evl.Ex.new hl1
  have al : upd H2 l1 (.lst L1) l1 = some (.lst L1) := upd_same
  generalize upd H2 l1 (.lst L1) = G at *
  -- return one(can, some + [..])
  refine ⟨_, rfl, _, rfl, _, rfl, _, rfl, _, rfl, z, rfl, hsz, _, rfl, _, rfl, _, _, rfl, rfl, sz (by omega), _, rfl, _, rfl, _, rfl, z, rfl, hsz, _, rfl, _, rfl, _, rfl, z, rfl, hsz, _, _, rfl, rfl, sz (by omega), (by show 3 ≤ sizeLine; decide), fun l2 hl2 => ?_⟩
  have nl : l1 ≠ l2 := ne_of_none al hl2
  refine ⟨l1, l2, L1, _, rfl, rfl, by rw [upd_ne nl]; exact al, upd_same, by rw [lL]; exact (by decide : 4 + 3 ≤ sizeLine), fun l3 hl3 => ?_⟩
  have x2 := (Evl.Ex.new hl2 (o := .lst [V.str (cutS z none (some r)), V.str (z ++ sg), V.str (cutS z (some r) none ++ cutS z none (some r))])).trans (Evl.Ex.new hl3 (o := .lst (L1 ++ [V.str (cutS z none (some r)), V.str (z ++ sg), V.str (cutS z (some r) none ++ cutS z none (some r))])))
  refine ⟨c, l3, _, rfl, C.mono ((ex.trans x1).trans x2), upd_same, by simp, by simp [lL], fun v H' e hv => ?_⟩
  obtain ⟨y2, rfl, hy2⟩ : Short (2 * n + 2) v := by
    rcases List.mem_append.mp hv with hv | hv
    · exact sL v hv
    · simp only [List.mem_cons, List.not_mem_nil, or_false] at hv
      rcases hv with rfl | rfl | rfl
      · exact ⟨_, rfl, (pz.cut _ _).le (by omega)⟩
      · exact ⟨_, rfl, (pz.app psg).le (by omega)⟩
      · exact ⟨_, rfl, ((pz.cut _ _).app (pz.cut _ _)).le (by omega)⟩
  exact k y2 H' (((ex.trans x1).trans x2).trans e) hy2
end
end Lr

namespace Lr
open PySem L2
/-! ### what may be shown -/
def nice (d : PyData) : Bool := d.showable && decide (d.shown.length ≤ 1000000) && decide (d.depth ≤ 10) && (!d.hasDict || !hasList d)
theorem nice_iff {d : PyData} : nice d = true ↔ d.showable = true ∧ d.shown.length ≤ 1000000 ∧ d.depth ≤ 10 ∧ (d.hasDict = true → hasList d = false) := by
  unfold nice
  simp only [Bool.and_eq_true, decide_eq_true_eq, Bool.or_eq_true, Bool.not_eq_true', and_assoc]
  constructor
  · rintro ⟨a, b, c, e⟩
    exact ⟨a, b, c, fun h => e.resolve_left (by rw [h]; simp)⟩
  · rintro ⟨a, b, c, e⟩
    refine ⟨a, b, c, ?_⟩
    cases h : d.hasDict
    · exact .inl rfl
    · exact .inr (e h)
theorem odd_nice : ∀ d ∈ oddD, nice d = true := by decide +kernel
theorem nice_none : nice .none = true := by decide +kernel
theorem nice_bool (b : Bool) : nice (.bool b) = true := by cases b <;> decide +kernel
theorem nice_string : nice (.tuple [.none, .str "string"]) = true := by decide +kernel
theorem nice_str {n : Nat} {z : Str} (h : Plain n z) (hn : n ≤ 10000) : nice (.str z) = true := by
  rw [nice_iff]
  have l := StrLaws.reprText_len z fun c hc => Nat.lt_trans (h.2 c hc) (by decide)
  have hl := h.1
  refine ⟨rfl, ?_, ?_, fun z => ?_⟩
  · simp only [PyData.shown]
    omega
  · simp [PyData.depth]
  · simp [PyData.hasDict] at z
theorem showable_small {i : Int} (h : i.natAbs < 10 ^ 12) : (PyData.int i).showable = true := by
  simp only [PyData.showable, decide_eq_true_eq]
  have h1 : i.natAbs < 2 ^ 40 := Nat.lt_trans h (by decide)
  have := PySem.Flt.log2_lt_of (k := 40) (by decide) h1
  omega
theorem ints_show : ∀ {ns : List Int}, (∀ x ∈ ns, x.natAbs < 10 ^ 12) → PyData.showableAll (ns.map PyData.int) = true ∧ ((PyData.shownAll (ns.map PyData.int)).map (·.length)).sum ≤ 13 * ns.length ∧ PyData.depthAll (ns.map PyData.int) = 0 ∧ PyData.hasDictAll (ns.map PyData.int) = false
  | [], _ => by simp [PyData.showableAll, PyData.shownAll, PyData.depthAll, PyData.hasDictAll]
  | x :: r, h => by
    obtain ⟨a, b, c, e⟩ := ints_show (ns := r) fun y hy => h y (by simp [hy])
    have hx := h x (by simp)
    have l := PyData.shown_int_le hx
    have sh := showable_small hx
    refine ⟨by simp [PyData.showableAll, sh, a], ?_, by simp [PyData.depthAll, PyData.depth, c], by simp [PyData.hasDictAll, PyData.hasDict, e]⟩
    simp only [List.map_cons, PyData.shownAll, List.sum_cons, List.length_cons]
    omega
theorem nice_tuple {ds : List PyData} (h1 : PyData.showableAll ds = true) (h2 : ((PyData.shownAll ds).map (·.length)).sum + 2 * ds.length + 3 ≤ 1000000) (h3 : PyData.depthAll ds ≤ 9) (h4 : PyData.hasDictAll ds = true → hasListAll ds = false) : nice (.tuple ds) = true := by
  rw [nice_iff]
  refine ⟨by simpa [PyData.showable] using h1, ?_, by simp only [PyData.depth]; omega, fun z => ?_⟩
  · simp only [PyData.shown]
    have := tupleText_len_le (PyData.shownAll ds)
    rw [PyData.shownAll_length] at this
    omega
  · simp only [hasList]
    exact h4 (by simpa [PyData.hasDict] using z)
theorem nice_row {ns : List Int} (h : ∀ x ∈ ns, x.natAbs < 10 ^ 12) (hl : ns.length ≤ 1000) : nice (.tuple (ns.map .int)) = true := by
  obtain ⟨a, b, c, e⟩ := ints_show h
  refine nice_tuple a ?_ (by omega) (fun z => by rw [e] at z; cases z)
  rw [List.length_map]
  omega
theorem nice_list {ds : List PyData} (h1 : PyData.showableAll ds = true) (h2 : ((PyData.shownAll ds).map (·.length)).sum + 2 * ds.length + 3 ≤ 1000000) (h3 : PyData.depthAll ds ≤ 9) (h4 : PyData.hasDictAll ds = false) : nice (.list ds) = true := by
  rw [nice_iff]
  refine ⟨by simpa [PyData.showable] using h1, ?_, by simp only [PyData.depth]; omega, fun z => ?_⟩
  · simp only [PyData.shown]
    have := listText_len_le (PyData.shownAll ds)
    rw [PyData.shownAll_length] at this
    omega
  · simp [PyData.hasDict, h4] at z
/-- two nice things in a list can be shown -/
theorem fit_two {a b : PyData} (ha : nice a = true) (hb : nice b = true) : Fit (.list [a, b]) := by
  obtain ⟨a1, a2, a3, _⟩ := nice_iff.mp ha
  obtain ⟨b1, b2, b3, _⟩ := nice_iff.mp hb
  have l := listText_len_le (PyData.shownAll [a, b])
  have z : sizeLine = 16777216 := by decide
  refine ⟨by simp [PyData.showable, PyData.showableAll, a1, b1], ?_, ?_⟩
  · simp only [PyData.shown]
    simp only [PyData.shownAll, List.map_cons, List.map_nil, List.sum_cons, List.sum_nil, List.length_cons, List.length_nil] at l ⊢
    omega
  · simp only [PyData.depth, PyData.depthAll]
    omega
/-- what stands in the law's list of values -/
def ValOk (d : PyData) : Prop := (∃ z, d = .str z ∧ Plain 1000 z) ∨ d ∈ oddD ∨ (∃ z, d = .list [.str z] ∧ Plain 1000 z) ∨ ∃ z, d = .tuple [.str z] ∧ Plain 1000 z
theorem str_bits {z : Str} (h : Plain 1000 z) : PyData.showableAll [.str z] = true ∧ ((PyData.shownAll [.str z]).map (·.length)).sum ≤ 10002 ∧ PyData.depthAll [.str z] = 0 := by
  have l := StrLaws.reprText_len z fun c hc => Nat.lt_trans (h.2 c hc) (by decide)
  have hl := h.1
  refine ⟨by simp [PyData.showableAll, PyData.showable], ?_, by simp [PyData.depthAll, PyData.depth]⟩
  simp only [PyData.shownAll, PyData.shown, List.map_cons, List.map_nil, List.sum_cons, List.sum_nil]
  omega
theorem ValOk.nice {d : PyData} (h : ValOk d) : nice d = true := by
  rcases h with ⟨z, rfl, h⟩ | h | ⟨z, rfl, h⟩ | ⟨z, rfl, h⟩
  · exact nice_str h (by decide)
  · exact odd_nice d h
  · obtain ⟨a, b, c⟩ := str_bits h
    exact nice_list a (by simp only [List.length_cons, List.length_nil]; omega) (by omega) (by simp [PyData.hasDictAll, PyData.hasDict])
  · obtain ⟨a, b, c⟩ := str_bits h
    exact nice_tuple a (by simp only [List.length_cons, List.length_nil]; omega) (by omega) (fun z => by simp [PyData.hasDictAll, PyData.hasDict] at z)
theorem odd_short : ∀ d ∈ oddD, (match d with | .str z => decide (z.length ≤ 1000) | _ => true) = true := by decide +kernel
theorem ValOk.short {d : PyData} (h : ValOk d) : ∀ z, d = .str z → z.length ≤ 1000 := by
  rintro z rfl
  rcases h with ⟨y, e, h⟩ | h | ⟨y, e, _⟩ | ⟨y, e, _⟩
  · cases e; exact h.1
  · exact of_decide_eq_true (odd_short _ h)
  · cases e
  · cases e
theorem nice_tell {k : Nat} {x : Str} (hk : k ≤ 100000) (hx : Plain 1000 x) : nice (tellD k x) = true := by
  have hk2 : ((k : Int)).natAbs < 10 ^ 12 := by simp; omega
  obtain ⟨a, b, c⟩ := str_bits hx
  have l := PyData.shown_int_le hk2
  have sh := showable_small hk2
  refine nice_tuple ?_ ?_ ?_ ?_
  · simp only [PyData.showableAll, sh, Bool.true_and] at a ⊢
    exact a
  · simp only [PyData.shownAll, List.map_cons, List.map_nil, List.sum_cons, List.sum_nil, List.length_cons, List.length_nil] at b ⊢
    omega
  · simp [PyData.depthAll, PyData.depth]
  · intro z
    simp [PyData.hasDictAll, PyData.hasDict] at z
theorem res_nice {cars : Nat} {d r : PyData} (hd : ValOk d) (h : WordRes cars d r) : nice r = true := by
  have sh := hd.short
  cases d with
  | str z =>
    have hz := sh z rfl
    have hl : (codes z).length ≤ 1000 := by
      have hz2 : z.cps.size ≤ 1000 := hz
      simpa using hz2
    rcases h with ⟨h, n⟩ | ⟨_, h⟩
    · rcases h with ⟨e, _⟩ | ⟨k, c, rfl, h1, _⟩
      · exact absurd e n
      · have := (List.getElem?_eq_some_iff.mp h1).1
        exact nice_tell (by omega) ⟨by decide, by decide⟩
    · rcases h with ⟨rfl, _⟩ | ⟨k, x, rfl, h1, h2, _⟩
      · exact nice_none
      · refine nice_tell (by omega) ?_
        unfold badAt at h2
        split at h2
        · split at h2
          · cases h2; exact ⟨by decide, by decide⟩
          · cases h2
        · split at h2
          · cases h2; exact ⟨by decide, by decide⟩
          · cases h2
  | none => rw [show r = _ from h]; exact nice_string
  | bool _ => rw [show r = _ from h]; exact nice_string
  | int _ => rw [show r = _ from h]; exact nice_string
  | list _ => rw [show r = _ from h]; exact nice_string
  | tuple _ => rw [show r = _ from h]; exact nice_string
  | dict _ => rw [show r = _ from h]; exact nice_string
end Lr

namespace Lr
open PySem L2
theorem codes_app {x y : Str} : codes (x ++ y) = codes x ++ codes y := Array.toList_append
theorem letV_codes (b : Bool) : ∀ c ∈ codes (letV b), LetterOk c := by
  cases b
  · intro c hc
    have : codes (letV false) = [97] := by decide +kernel
    rw [this] at hc
    simp at hc
    exact .inl hc
  · intro c hc
    have : codes (letV true) = [112] := by decide +kernel
    rw [this] at hc
    simp at hc
    exact .inr hc
theorem join_codes : ∀ bs : List Bool, ∀ c ∈ codes (Str.join "" (bs.map letV)), LetterOk c
  | [] => fun c hc => by
    have e : codes (Str.join "" (([] : List Bool).map letV)) = [] := by decide +kernel
    rw [e] at hc
    cases hc
  | [b] => letV_codes b
  | b :: b2 :: r => fun c hc => by
    rw [List.map_cons, List.map_cons, join_cons, codes_app, codes_app] at hc
    have z : codes (("" : String) : Str) = [] := by decide +kernel
    rw [z, List.append_nil] at hc
    rcases List.mem_append.mp hc with q | q
    · exact letV_codes b c q
    · exact join_codes (b2 :: r) c q
theorem wordS_codes (bs : List Bool) : ∀ c ∈ codes (wordS bs), LetterOk c := by
  have e : wordS bs = Str.join "" (bs.map letV) := by
    unfold wordS Txt.join
    rw [StrLaws.glued_eq_join]
  rw [e]
  exact join_codes bs
theorem LetterOk.small {c : Nat} (h : LetterOk c) : c < 1114112 := by
  rcases h with rfl | rfl <;> decide
theorem wordS_plain {bs : List Bool} {n : Nat} (h : bs.length ≤ n) : Plain n (wordS bs) := ⟨by rw [wordS_len]; exact h, fun c hc => (wordS_codes bs c hc).small⟩
theorem upper_ok {c : Nat} (h : LetterOk c) : ∀ e ∈ Unicode.upperOf c, e < 1114112 := by
  rcases h with rfl | rfl
  · have : Unicode.upperOf 97 = [65] := by decide +kernel
    rw [this]
    decide
  · have : Unicode.upperOf 112 = [80] := by decide +kernel
    rw [this]
    decide
theorem upper_plain {z : Str} {n : Nat} (h : ∀ c ∈ codes z, LetterOk c) (hl : z.length ≤ n) : Plain (3 * n) (Txt.upper z) := by
  refine ⟨Nat.le_trans (PyProof.Rows.len_upper z) (by omega), fun e he => ?_⟩
  have he2 : e ∈ (z.cps.mapIdx fun _ c => (Unicode.upperOf c).toArray).flatten := by
    have : e ∈ (Txt.upper z).cps := by simpa using he
    exact this
  rw [Array.mem_flatten] at he2
  obtain ⟨arr, ha, hea⟩ := he2
  rw [Array.mem_mapIdx] at ha
  obtain ⟨i, hi, rfl⟩ := ha
  exact upper_ok (h z.cps[i] (by simp)) e (by simpa using hea)
theorem fold_mem {A : Array Nat} {e : Nat} : ∀ (k : Nat) (acc : Array Nat), e ∈ (List.replicate k A).foldl (· ++ ·) acc → e ∈ acc ∨ e ∈ A
  | 0, acc, h => .inl h
  | k + 1, acc, h => by
    rw [List.replicate_succ, List.foldl_cons] at h
    rcases fold_mem k (acc ++ A) h with q | q
    · rw [Array.mem_append] at q
      exact q
    · exact .inr q
theorem mul_plain {z : Str} {m n : Nat} (h : Plain m z) : Plain (m * n) (Txt.mul z (n : Int)) := by
  refine ⟨by rw [mulS_len]; exact Nat.mul_le_mul_right n h.1, fun e he => ?_⟩
  have he2 : e ∈ (Txt.mul z (n : Int)).cps := by simpa using he
  unfold Txt.mul at he2
  split at he2
  · simp [Str.empty] at he2
  · split at he2
    · exact h.2 e (by simpa using he2)
    · rcases fold_mem _ _ he2 with q | q
      · simp at q
      · exact h.2 e (by simpa using q)
/-- a list of the law's values -/
def Items (H : Hp) (xs : List V) : Prop := ∀ v ∈ xs, ∃ d, Dv H v d ∧ ValOk d
theorem Items.mono {H H' : Hp} {xs : List V} (h : Items H xs) (e : Ex H H') : Items H' xs := fun v hv => let ⟨d, a, b⟩ := h v hv; ⟨d, a.mono e, b⟩
theorem Items.app {H : Hp} {xs ys : List V} (h : Items H xs) (g : Items H ys) : Items H (xs ++ ys) := fun v hv => (List.mem_append.mp hv).elim (h v) (g v)
theorem Items.nil {H : Hp} : Items H [] := fun v hv => nomatch hv
theorem Items.cons {H : Hp} {x : V} {xs : List V} {d : PyData} (h : Dv H x d) (o : ValOk d) (g : Items H xs) : Items H (x :: xs) := fun v hv => by
  rcases List.mem_cons.mp hv with rfl | hv
  · exact ⟨d, h, o⟩
  · exact g v hv
theorem Items.str {H : Hp} {z : Str} {xs : List V} (h : Plain 1000 z) (g : Items H xs) : Items H (.str z :: xs) := Items.cons (.str z) (.inl ⟨z, rfl, h⟩) g
theorem noList_ints : ∀ ns : List Int, hasListAll (ns.map PyData.int) = false
  | [] => rfl
  | n :: r => by simp [hasListAll, hasList, noList_ints r]
theorem noDict_ints : ∀ ns : List Int, PyData.hasDictAll (ns.map PyData.int) = false
  | [] => by simp [PyData.hasDictAll]
  | n :: r => by simp [PyData.hasDictAll, PyData.hasDict, noDict_ints r]
theorem row_sys {p : Addr} {ns : List Int} {d : PyData} (np : p ≠ sysModules) (hd : nice d = true) (h : (PyData.list [.tuple (ns.map .int), d]).hasDict = true) : NoSys (.ref p) (.list [.tuple (ns.map .int), d]) := by
  refine .inr ⟨p, _, rfl, rfl, np, ?_⟩
  have hh : d.hasDict = true := by simpa [PyData.hasDict, PyData.hasDictAll, noDict_ints] using h
  have := (nice_iff.mp hd).2.2.2 hh
  simp [hasListAll, hasList, noList_ints, this]
theorem res_noDict {cars : Nat} {d r : PyData} (h : WordRes cars d r) : r.hasDict = false := by
  cases d with
  | str z =>
    rcases h with ⟨h, n⟩ | ⟨_, h⟩
    · rcases h with ⟨rfl, _⟩ | ⟨k, c, rfl, _⟩
      · simp [PyData.hasDict]
      · simp [tellD, PyData.hasDict, PyData.hasDictAll]
    · rcases h with ⟨rfl, _⟩ | ⟨k, x, rfl, _⟩
      · simp [PyData.hasDict]
      · simp [tellD, PyData.hasDict, PyData.hasDictAll]
  | none => rw [show r = _ from h]; simp [PyData.hasDict, PyData.hasDictAll]
  | bool _ => rw [show r = _ from h]; simp [PyData.hasDict, PyData.hasDictAll]
  | int _ => rw [show r = _ from h]; simp [PyData.hasDict, PyData.hasDictAll]
  | list _ => rw [show r = _ from h]; simp [PyData.hasDict, PyData.hasDictAll]
  | tuple _ => rw [show r = _ from h]; simp [PyData.hasDict, PyData.hasDictAll]
  | dict _ => rw [show r = _ from h]; simp [PyData.hasDict, PyData.hasDictAll]
theorem pair_noDict {cars : Nat} {d r : PyData} {b : Bool} {p : V} (h : WordRes cars d r) (q : (PyData.list [r, .bool b]).hasDict = true) : NoSys p (.list [r, .bool b]) := by
  simp [PyData.hasDict, PyData.hasDictAll, res_noDict h] at q
theorem HistRes.uniq {cars : Nat} {d : PyData} {b c : Bool} (h : HistRes cars d b) (g : HistRes cars d c) : b = c := by
  obtain ⟨r, h1, h2⟩ := h
  obtain ⟨q, g1, g2⟩ := g
  have e := h1.uniq g1
  subst e
  have i : b = true ↔ c = true := h2.trans g2.symm
  cases b <;> cases c <;> simp at i ⊢
theorem none_str {cars : Nat} {d : PyData} (h : WordRes cars d .none) : ∃ z, d = .str z := by
  cases d with
  | str z => exact ⟨z, rfl⟩
  | _ => exact absurd h (fun z => nomatch z)
abbrev sLaw : Stmt := topS 16
abbrev nLaw : List Str := ["_law_script", "_law_can", "_law_turn", "_law_row", "_law_many", "_law_word", "_law_values", "_law_k", "_law_once", "_law_value", "_law_shown", "_law_due", "_law_is_full"]
theorem scLaw : FnScope nLaw ["_law_script"] (defScope sLaw) :=
  ⟨rfl, rfl, rfl, by decide +kernel, rfl, by decide +kernel, by decide +kernel⟩
section
variable {P : Program} {w : World} {K : PySem.W.Frag} {mg : Str → Option Value} {base : Heap}
def spLaw (K : PySem.W.Frag) : Sp := fun vs H Q _ => ∃ (a : Addr) (ns : List Int), vs = [.ref a] ∧ SqL K H a (ns.map V.int) ∧ ns.length ≤ 63 ∧ ∀ H', Q (.bl true) H'
theorem ok_law {f : Addr} {fd : FuncData} (F : Fun K "law" "law" sLaw f fd) (T : Blt mg) (c_law_opened : Cal P w K mg base 1 "_law_opened" ["_law_script"] (spOpened P w K))
    (c_law_roll : Cal P w K mg base 1 "_law_roll" ["_law_can", "_law_many"] (spRoll P w)) (c_law_rule : Cal P w K mg base 3 "_law_rule" ["_law_can", "_law_upto"] (spRule P w))
    (c_law_cars : Cal P w K mg base 3 "_law_cars" ["_law_can", "_law_rule_here", "_law_upto"] (spCars P w)) (c_law_day : Cal P w K mg base 2 "_law_day" ["_law_can", "_law_many", "_law_way"] (spDay P w))
    (c_law_odd : Cal P w K mg base 3 "_law_odd" ["_law_can"] (spOdd P w)) (c_law_twisted : Cal P w K mg base 3 "_law_twisted" ["_law_can", "_law_word"] (spTwist P w))
    (c_law_fault : Cal P w K mg base 1 "_law_fault" ["_law_row", "_law_value"] spFault) (cword_error : Cal P w K mg base 2 "word_error" ["row", "value"] spWordE) (cis_history : Cal P w K mg base 3 "is_history" ["row", "value"] spIsHist) :
    FnG P w K mg base 5 f fd ["_law_script"] (spLaw K) := by
  refine fnG F scLaw (fun vs H Q E h => ?_) (fun cdv A outer s H vs Q E hr hg h => ?_)
  · obtain ⟨a, ns, rfl, _⟩ := h
    rfl
  obtain ⟨a, ns, rfl, hS, hlen, kQ⟩ := h
  refine ⟨_, (pss_cons (ps_set (i := 1) scLaw.nd rfl (Or.inl rfl) (pe_cal c_law_opened (hr.mono (by decide)) rfl (pa_cons (pv 0) pa_nil)))
    (pss_cons (ps_for PassesOwn.never rfl (pi_range1 rfl T.range (pa_cons pe_int pa_nil)) (pg_name (i := 2) scLaw.nd rfl (Or.inl rfl)) (pss_cons (ps_set (i := 3) scLaw.nd rfl (Or.inl rfl) (pe_cal c_law_cars (hr.mono (by decide)) rfl (pa_cons (pv 1) (pa_cons (pe_cal c_law_rule (hr.mono (by decide)) rfl (pa_cons (pv 1) (pa_cons pe_int pa_nil))) (pa_cons (pe_ix (kx_list (K := K) rfl) (pe_lst (pa_cons pe_int (pa_cons pe_int pa_nil))) (pe_op op_modN (pv 2) pe_int) (fun _ _ => rfl)) pa_nil)))))
      (pss_cons (ps_set (i := 4) scLaw.nd rfl (Or.inl rfl) (pe_callB (k_len (K := K) rfl) rfl T.len bt_len (pa_cons (pv 3) pa_nil)))
      (pss_cons (ps_set (i := 5) scLaw.nd rfl (Or.inl rfl) (pe_cal c_law_day (hr.mono (by decide)) rfl (pa_cons (pv 1) (pa_cons (pv 4) (pa_cons (pe_cal c_law_roll (hr.mono (by decide)) rfl (pa_cons (pv 1) (pa_cons pe_int pa_nil))) pa_nil)))))
      (pss_cons (ps_set (i := 6) scLaw.nd rfl (Or.inl rfl) (pe_lst (pa_cons (pv 5) (pa_cons (pe_slice sl_str (pv 5) po_none (po_some (pe_cal c_law_roll (hr.mono (by decide)) rfl (pa_cons (pv 1) (pa_cons (pe_op op_mul pe_int (pv 4)) pa_nil))))) (pa_cons pe_str (pa_cons pe_str (pa_cons (pe_op op_mulS pe_str (pv 4)) (pa_cons (pe_op op_mulS pe_str (pe_op op_add (pv 4) pe_int)) (pa_cons (pe_op op_add_str (pv 5) pe_str) (pa_cons (pe_op op_add_str (pv 5) pe_str) pa_nil))))))))))
      (pss_cons (ps_set (i := 6) scLaw.nd rfl (Or.inl rfl) (pe_op op_cat (pv 6) (pe_lst (pa_cons (pe_op op_mulS pe_str pe_int) (pa_cons (pe_op op_add_str (pe_op op_mulS pe_str pe_int) pe_str) (pa_cons (pe_lst (pa_cons (pv 5) pa_nil)) (pa_cons (pe_tup (pa_cons (pv 5) pa_nil)) (pa_cons (pe_upper (pv 5)) (pa_cons (pe_op op_add_str (pe_op op_mulS pe_str (pv 4)) (pe_op op_mulS pe_str (pv 4))) pa_nil)))))))))
      (pss_cons (ps_expr (pe_bm PySem.F.plainAttrs_list PySem.F.slot_list_append PySem.F.type_list_append mt_append (pv 6) (pa_cons (pe_cal c_law_odd (hr.mono (by decide)) rfl (pa_cons (pv 1) pa_nil)) pa_nil)))
      (pss_cons (ps_for PassesOwn.never rfl (pi_range1 rfl T.range (pa_cons pe_int pa_nil)) (pg_name (i := 7) scLaw.nd rfl (Or.inl rfl)) (pss_cons (ps_set (i := 8) scLaw.nd rfl (Or.inl rfl) (pe_cal c_law_twisted (hr.mono (by decide)) rfl (pa_cons (pv 1) (pa_cons (pv 5) pa_nil))))
        (pss_one (ps_set (i := 6) scLaw.nd rfl (Or.inl rfl) (pe_op op_cat (pv 6) (pe_lst (pa_cons (pv 8) (pa_cons (pe_cal c_law_twisted (hr.mono (by decide)) rfl (pa_cons (pv 1) (pa_cons (pv 8) pa_nil))) pa_nil))))))))
      (pss_one (ps_for PassesOwn.never rfl (ki_list (K := K) rfl (pv 6)) (pg_name (i := 9) scLaw.nd rfl (Or.inl rfl)) (pss_cons (ps_par (i := 10) (j := 11) rfl scLaw.nd rfl rfl (by decide) rfl rfl (pa_cons (pe_callB (call_repr hg hr.units) rfl T.repr bt_repr (pa_cons (pe_lstN (pa_cons (pv 3) (pa_cons (pv 9) pa_nil))) pa_nil)) (pa_cons (pe_cal c_law_fault (hr.mono (by decide)) rfl (pa_cons (pv 3) (pa_cons (pv 9) pa_nil))) pa_nil)) rfl)
        (pss_cons (ps_set (i := 12) scLaw.nd rfl (Or.inl rfl) (pe_and (pe_cmpR op_isN (pv 11) pe_non (nomark _)) (pe_one (pe_cmpR op_eq (pe_callB call_len_str rfl T.len bt_len (pa_cons (pv 9) pa_nil)) (pe_op op_mul pe_int (pv 4)) (nomark _)))))
        (pss_cons (ps_if (pt_cmpR op_ne (pe_callB (call_repr hg hr.units) rfl T.repr bt_repr (pa_cons (pe_lst (pa_cons (pe_cal cword_error (hr.mono (by decide)) rfl (pa_cons (pv 3) (pa_cons (pv 9) pa_nil))) (pa_cons (pe_cal cis_history (hr.mono (by decide)) rfl (pa_cons (pv 3) (pa_cons (pv 9) pa_nil))) pa_nil))) pa_nil)) (pe_callB (call_repr hg hr.units) rfl T.repr bt_repr (pa_cons (pe_lst (pa_cons (pv 11) (pa_cons (pv 12) pa_nil))) pa_nil)) (nomark _)) (pss_one (ps_ret pe_bl)) pss_nil)
        (pss_one (ps_if (pt_cmpR op_ne (pe_callB (call_repr hg hr.units) rfl T.repr bt_repr (pa_cons (pe_lstN (pa_cons (pv 3) (pa_cons (pv 9) pa_nil))) pa_nil)) (pv 10) (nomark _)) (pss_one (ps_ret pe_bl)) pss_nil)))))))))))))))
    (pss_one (ps_ret pe_bl)))), ?_⟩
  -- can = opened(script)
  refine ⟨_, rfl, a, ns, rfl, hS, hlen, fun c H0 e0 C => ?_⟩
  refine ⟨6, rfl, by decide, by decide, for_range (fun i σ H' => (∃ x2 x3 x4 x5 x6 x7 x8 x9 x10 x11 x12 : Option V, σ = [some (.ref a), some (.ref c), x2, x3, x4, x5, x6, x7, x8, x9, x10, x11, x12]) ∧ Can P w H' c) ⟨⟨_, _, _, _, _, _, _, _, _, _, _, rfl⟩, C⟩ ?_ (fun σ H' _ => kQ H')⟩
  rintro i σ H1 hi ⟨⟨x2, x3, x4, x5, x6, x7, x8, x9, x10, x11, x12, rfl⟩, C1⟩
  have i0 : (0 : Int) + (i : Int) = (i : Int) := Int.zero_add _
  rw [i0]
  obtain ⟨u, hat, hu1, hu2⟩ : ∃ u : Nat, atI [V.int 40, V.int 5] ((i : Int).fmod 2) = some (.int (u : Int)) ∧ 1 ≤ u ∧ u ≤ 40 := by
    have : i = 0 ∨ i = 1 ∨ i = 2 ∨ i = 3 ∨ i = 4 ∨ i = 5 := by omega
    rcases this with rfl | rfl | rfl | rfl | rfl | rfl <;> first | exact ⟨40, rfl, by decide, by decide⟩ | exact ⟨5, rfl, by decide, by decide⟩
  have two : (2 : Int) ≠ 0 := by decide
  -- row
  refine ⟨_, rfl, _, rfl, c, 6, rfl, C1, by decide, by decide, fun rv n ps H2 e2 hn hR hrv => ⟨(by show 2 ≤ sizeLine; decide), fun p hp => ⟨_, rfl, _, _, rfl, rfl, two, p, _, _, _, rfl, rfl, SqL.of upd_same, hat, c, rv, u, n, ps, rfl, C1.mono (e2.trans (Evl.Ex.new hp)), hrv.mono (Evl.Ex.new hp), hR, by omega, by omega, by omega, fun pr rs H4 e4 hrow hr1 hr2 hin => ?_⟩⟩⟩
  have E4 : Ex H1 H4 := (e2.trans (Evl.Ex.new hp)).trans e4
  -- many
  refine ⟨_, rfl, pr, _, rfl, .inr (SqT.of hrow), ?_⟩
  have rlen : (rs.map V.int).length = rs.length := List.length_map _
  rw [rlen]
  generalize hm : rs.length = m at *
  have hm1 : 1 ≤ m := hr1
  have hm2 : m ≤ 40 := by omega
  -- word
  refine ⟨_, rfl, _, rfl, _, rfl, c, 5, rfl, C1.mono E4, by decide, by decide, fun r5 H5 e5 a0 a1 => ?_⟩
  obtain ⟨y, rfl⟩ : ∃ y : Nat, r5 = (y : Int) := ⟨r5.toNat, by omega⟩
  refine ⟨c, m, y, rfl, C1.mono (E4.trans e5), by omega, by omega, fun bs H6 e6 _ hf ht => ?_⟩
  have E6 : Ex H1 H6 := (E4.trans e5).trans e6
  have hbl : bs.length = 2 * m := by have := count_two bs; omega
  have pw : Plain 80 (wordS bs) := wordS_plain (by omega)
  have wl : (wordS bs).length = 2 * m := by rw [wordS_len]; exact hbl
  have wc := wordS_codes bs
  generalize wordS bs = wd at pw wl wc ⊢
  have wsz : wd.length ≤ sizeLine := Evl.sz_of (by omega)
  have sz : ∀ {n : Nat}, n ≤ 100000 → n ≤ sizeLine := fun h => Evl.sz_of h
  have pa : Plain 1 ("a" : Str) := ⟨by decide, by decide⟩
  have pp : Plain 1 ("p" : Str) := ⟨by decide, by decide⟩
  have pap : Plain 2 ("ap" : Str) := ⟨by decide, by decide⟩
  have la : ("a" : Str).length = 1 := by decide
  have lp : ("p" : Str).length = 1 := by decide
  have lap : ("ap" : Str).length = 2 := by decide
  -- values = [..]
  refine ⟨_, rfl, _, rfl, _, rfl, _, rfl, _, _, rfl, rfl, .inl (by decide), c, _, rfl, C1.mono E6, by omega, by omega, fun r7 H7 e7 b0 b1 => ?_⟩
  refine ⟨_, rfl, wd, rfl, wsz, _, rfl, "a", m, rfl, rfl, by decide, by omega, _, rfl, _, _, rfl, rfl, "a", m + 1, rfl, rfl, by decide, by omega, _, rfl, _, _, rfl, rfl, sz (by omega), _, rfl, _, _, rfl, rfl, sz (by omega), (by show 8 ≤ sizeLine; decide), fun l1 hl1 => ?_⟩
  have pc := pw.cut none (some r7)
  generalize cutS wd none (some r7) = cut at pc ⊢
  have E7 : Ex H1 H7 := E6.trans e7
  have I1 : ∀ G, Items G [V.str wd, V.str cut, V.str "", V.str "p", V.str (Txt.mul "a" (m : Int)), V.str (Txt.mul "a" ((m + 1 : Nat) : Int)), V.str (wd ++ "p"), V.str (wd ++ "a")] := fun G =>
    .str (pw.le (by decide)) (.str (pc.le (by decide)) (.str ⟨by decide, by decide⟩ (.str (pp.le (by decide)) (.str ((mul_plain pa).le (by omega)) (.str ((mul_plain pa).le (by omega)) (.str ((pw.app pp).le (by decide)) (.str ((pw.app pa).le (by decide)) .nil)))))))
  have al1 : upd H7 l1 (.lst [V.str wd, V.str cut, V.str "", V.str "p", V.str (Txt.mul "a" (m : Int)), V.str (Txt.mul "a" ((m + 1 : Nat) : Int)), V.str (wd ++ "p"), V.str (wd ++ "a")]) l1 = some (.lst [V.str wd, V.str cut, V.str "", V.str "p", V.str (Txt.mul "a" (m : Int)), V.str (Txt.mul "a" ((m + 1 : Nat) : Int)), V.str (wd ++ "p"), V.str (wd ++ "a")]) := upd_same
  have E8 : Ex H7 (upd H7 l1 (.lst [V.str wd, V.str cut, V.str "", V.str "p", V.str (Txt.mul "a" (m : Int)), V.str (Txt.mul "a" ((m + 1 : Nat) : Int)), V.str (wd ++ "p"), V.str (wd ++ "a")])) := Evl.Ex.new hl1
  generalize hL1 : [V.str wd, V.str cut, V.str "", V.str "p", V.str (Txt.mul "a" (m : Int)), V.str (Txt.mul "a" ((m + 1 : Nat) : Int)), V.str (wd ++ "p"), V.str (wd ++ "a")] = L1 at I1 al1 E8
  have ll1 : L1.length = 8 := by rw [← hL1]; rfl
  generalize upd H7 l1 (.lst L1) = G1 at al1 E8 ⊢
  -- values = values + [..]
  refine ⟨_, rfl, "ap", 40, rfl, rfl, by decide, by decide, "ap", 40, rfl, rfl, by decide, by decide, _, _, rfl, rfl, sz (by rw [mulS_len, lap, la]; decide), ?_⟩
  refine ⟨_, rfl, (by show 1 ≤ sizeLine; decide), fun q1 h1 => ⟨_, rfl, (by show 1 ≤ sizeLine; decide), fun q2 h2 => ?_⟩⟩
  refine ⟨_, rfl, ⟨_, rfl⟩, wd, rfl, rfl, by omega, _, rfl, "a", m, rfl, rfl, by decide, by omega, _, rfl, "p", m, rfl, rfl, by decide, by omega, _, _, rfl, rfl, sz (by rw [mulS_len, mulS_len, la, lp]; omega), (by show 6 ≤ sizeLine; decide), fun l2 hl2 => ?_⟩
  have X1 : Ex G1 (upd G1 q1 (.lst [.str wd])) := Evl.Ex.new h1
  have X2 : Ex G1 (upd (upd G1 q1 (.lst [.str wd])) q2 (.tup [.str wd])) := X1.trans (Evl.Ex.new h2)
  have nq : q1 ≠ q2 := ne_of_none upd_same h2
  have aq1 : upd (upd G1 q1 (.lst [.str wd])) q2 (.tup [.str wd]) q1 = some (.lst [.str wd]) := by rw [upd_ne nq]; exact upd_same
  have aq2 : upd (upd G1 q1 (.lst [.str wd])) q2 (.tup [.str wd]) q2 = some (.tup [.str wd]) := upd_same
  generalize upd (upd G1 q1 (.lst [.str wd])) q2 (.tup [.str wd]) = G2 at *
  have p40 : Plain 80 (Txt.mul "ap" ((40 : Nat) : Int)) := mul_plain pap
  have I2 : Items G2 [V.str (Txt.mul "ap" ((40 : Nat) : Int)), V.str (Txt.mul "ap" ((40 : Nat) : Int) ++ "a"), V.ref q1, V.ref q2, V.str (Txt.upper wd), V.str (Txt.mul "a" (m : Int) ++ Txt.mul "p" (m : Int))] :=
    .str (p40.le (by decide)) (.str ((p40.app pa).le (by decide)) (.cons (.lst aq1 (.cons (.str wd) .nil)) (.inr (.inr (.inl ⟨wd, rfl, pw.le (by decide)⟩))) (.cons (.tup aq2 (.cons (.str wd) .nil)) (.inr (.inr (.inr ⟨wd, rfl, pw.le (by decide)⟩)))
      (.str ((upper_plain wc (by omega : wd.length ≤ 80)).le (by decide)) (.str (((mul_plain pa).app (mul_plain pp)).le (by omega)) .nil)))))
  generalize hL2 : [V.str (Txt.mul "ap" ((40 : Nat) : Int)), V.str (Txt.mul "ap" ((40 : Nat) : Int) ++ "a"), V.ref q1, V.ref q2, V.str (Txt.upper wd), V.str (Txt.mul "a" (m : Int) ++ Txt.mul "p" (m : Int))] = L2 at *
  have ll2 : L2.length = 6 := by rw [← hL2]; rfl
  have nl : l1 ≠ l2 := ne_of_none (X2 _ _ al1) hl2
  refine ⟨l1, l2, L1, L2, rfl, rfl, by rw [upd_ne nl]; exact X2 _ _ al1, upd_same, by rw [ll1, ll2]; decide, fun l3 hl3 => ?_⟩
  have X3 : Ex G2 (upd G2 l2 (.lst L2)) := Evl.Ex.new hl2
  generalize upd G2 l2 (.lst L2) = G3 at *
  have IL : Items G3 (L1 ++ L2) := (I1 G3).app (I2.mono X3)
  have lenL : (L1 ++ L2).length = 14 := by rw [List.length_append, ll1, ll2]
  generalize L1 ++ L2 = L at IL lenL ⊢
  have X4 : Ex G3 (upd G3 l3 (.lst L)) := Evl.Ex.new hl3
  have al3 : upd G3 l3 (.lst L) l3 = some (.lst L) := upd_same
  generalize upd G3 l3 (.lst L) = G4 at X4 al3 ⊢
  have E3 : Ex H1 G3 := ((E7.trans E8).trans X2).trans X3
  -- values.append(odd(can))
  refine ⟨_, rfl, .inl ⟨rfl, _, SqL.of al3⟩, _, rfl, c, G3, rfl, C1.mono (E3.trans X4), X4, fun ov od B5 H8 g hov hod => ⟨l3, L, ov, rfl, rfl, g.hh _ _ al3, by rw [lenL]; decide, ?_⟩⟩
  have bl : B5 l3 = none := g.free hl3 al3
  have E5 : Ex B5 (upd H8 l3 (.lst (L ++ [ov]))) := Evl.Ex.mut g.bh bl
  have IL5 : Items (upd H8 l3 (.lst (L ++ [ov]))) (L ++ [ov]) := ((IL.mono g.bb).mono E5).app (.cons (hov.mono E5) (.inr (.inl hod)) .nil)
  have EE : Ex H1 (upd H8 l3 (.lst (L ++ [ov]))) := (E3.trans g.bb).trans E5
  have al5 : upd H8 l3 (.lst (L ++ [ov])) l3 = some (.lst (L ++ [ov])) := upd_same
  have lenL5 : (L ++ [ov]).length = 15 := by simp [lenL]
  generalize upd H8 l3 (.lst (L ++ [ov])) = G5 at IL5 EE al5 E5 ⊢
  generalize L ++ [ov] = L5 at IL5 al5 lenL5
  have F5 : Ex H4 G5 := ((((((e5.trans e6).trans e7).trans E8).trans X2).trans X3).trans g.bb).trans E5
  have hrow5 : G5 pr = some (.tup (rs.map V.int)) := F5 _ _ hrow
  have C5 : Can P w G5 c := C1.mono EE
  have small : ∀ x ∈ rs, x.natAbs < 10 ^ 12 := fun x hx => by
    have := hin x hx
    omega
  have nrow : nice (.tuple (rs.map .int)) = true := nice_row small (by omega)
  -- for k in range(8)
  refine ⟨8, rfl, by decide, by decide, for_range (fun j σ H' => ∃ (l : Addr) (xs : List V) (kx ox : Option V), σ = [some (.ref a), some (.ref c), some (.int i), some (.ref pr), some (.int m), some (.str wd), some (.ref l), kx, ox, x9, x10, x11, x12] ∧ H' l = some (.lst xs) ∧ Items H' xs ∧ xs.length ≤ 15 + 2 * j ∧ Ex G5 H')
    ⟨l3, L5, x7, x8, rfl, al5, IL5, by omega, Evl.Ex.refl _⟩ ?_ ?_⟩
  · rintro j σ J1 hj ⟨l, xs, kx, ox, rfl, hl, hI, hxl, eJ⟩
    refine ⟨_, rfl, _, rfl, c, wd, 80, rfl, C5.mono eJ, by decide, pw, fun y1 J2 f2 hy1 => ?_⟩
    refine ⟨_, rfl, _, rfl, _, rfl, _, rfl, c, y1, 162, rfl, C5.mono (eJ.trans f2), by decide, hy1, fun y2 J3 f3 hy2 => ⟨(by show 2 ≤ sizeLine; decide), fun l4 hl4 => ?_⟩⟩
    have hl3' : J3 l = some (.lst xs) := f3 _ _ (f2 _ _ hl)
    have nll : l ≠ l4 := ne_of_none hl3' hl4
    refine ⟨l, l4, xs, _, rfl, rfl, by rw [upd_ne nll]; exact hl3', upd_same, Nat.le_trans (show xs.length + [V.str y1, V.str y2].length ≤ 1000 by simp; omega) (by decide), fun l6 hl6 => ?_⟩
    have f4 := (Evl.Ex.new hl4 (o := .lst [V.str y1, V.str y2])).trans (Evl.Ex.new hl6 (o := .lst (xs ++ [V.str y1, V.str y2])))
    refine ⟨l6, xs ++ [V.str y1, V.str y2], some (.int (0 + (j : Int))), some (.str y1), rfl, upd_same, ?_, ?_, ((eJ.trans f2).trans f3).trans f4⟩
    · exact (hI.mono ((f2.trans f3).trans f4)).app (.str (hy1.le (by decide)) (.str (hy2.le (by decide)) .nil))
    · simp
      omega
  rintro σ J1 ⟨l, xs, kx, ox, rfl, hl, hI, hxl, eJ⟩
  -- for value in values
  refine ⟨_, rfl, l, rfl, ⟨_, SqL.of hl⟩, for_list (K := K) (a := l) (xs := xs) (fun j σ H' => (∃ z9 z10 z11 z12 : Option V, σ = [some (.ref a), some (.ref c), some (.int i), some (.ref pr), some (.int m), some (.str wd), some (.ref l), kx, ox, z9, z10, z11, z12]) ∧ Ex J1 H')
    ⟨⟨_, _, _, _, rfl⟩, Evl.Ex.refl _⟩ (fun j σ H' _ h => SqL.of (h.2 _ _ hl)) ?turn ?after⟩
  case after =>
    rintro σ H' ⟨⟨z9, z10, z11, z12, rfl⟩, e⟩
    exact ⟨⟨_, _, _, _, _, _, _, _, _, _, _, rfl⟩, C5.mono (eJ.trans e)⟩
  case turn =>
    rintro j v σ J2 hv ⟨⟨z9, z10, z11, z12, rfl⟩, e2⟩
    obtain ⟨d, hd1, hdo⟩ := hI v (List.mem_of_getElem? hv)
    have hd2 : Dv J2 v d := hd1.mono e2
    have hn := hdo.nice
    have hrow2 : J2 pr = some (.tup (rs.map V.int)) := e2 _ _ (eJ _ _ hrow5)
    have hsh : ∀ z, d = .str z → z.length ≤ 100000 := fun z hz => Nat.le_trans (hdo.short z hz) (by decide)
    -- shown, due = repr([row, value]), fault(row, value)
    refine ⟨_, rfl, _, rfl, (by show 2 ≤ sizeLine; decide), fun p1 hp1 np1 => ⟨.ref p1, .list [.tuple (rs.map .int), d], rfl, .lst upd_same (.cons (.tup (Evl.Ex.new hp1 _ _ hrow2) (dv_ints _ rs)) (.cons (hd2.mono (Evl.Ex.new hp1)) .nil)), fit_two nrow hn, row_sys np1 hn, ?_⟩⟩
    have g1 : Ex J2 (upd J2 p1 (.lst [.ref pr, v])) := Evl.Ex.new hp1
    generalize upd J2 p1 (.lst [.ref pr, v]) = K1 at g1 ⊢
    refine ⟨_, rfl, _, rfl, pr, v, _, d, rfl, g1 _ _ hrow2, hd2.mono g1, hsh, fun du r K2 g2 hdu hres => ⟨_, _, rfl, ?_⟩⟩
    rw [List.length_map, hm] at hres
    have hnr := res_nice hdo hres
    have hrow3 : K2 pr = some (.tup (rs.map V.int)) := g2 _ _ (g1 _ _ hrow2)
    have hd3 : Dv K2 v d := (hd2.mono g1).mono g2
    have e3 : Ex J1 K2 := (e2.trans g1).trans g2
    have rl : (rs.map V.int).length = m := by rw [List.length_map]; exact hm
    -- is_full = due is None and len(value) == 2 * many
    refine ⟨_, rfl, rfl, _, rfl, ?_⟩
    by_cases hnone : r = .none
    · have nv : decide (du = V.non) = true := decide_eq_true (by rw [hnone] at hdu; cases hdu; rfl)
      rw [nv]
      obtain ⟨z, hz⟩ := none_str (hnone ▸ hres)
      have hv2 : v = .str z := by rw [hz] at hd3; cases hd3; rfl
      have hb : HistRes m d (decide (V.int (z.length : Int) = V.int (2 * (m : Int)))) := by
        refine ⟨r, hres, ?_⟩
        rw [decide_eq_true_iff]
        constructor
        · intro q
          have q2 := V.int.inj q
          exact ⟨hnone, z, hz, by omega⟩
        · rintro ⟨_, z2, q1, q2⟩
          rw [hz] at q1
          cases q1
          exact congrArg V.int (by omega)
      refine iteT ⟨_, rfl, z, (by rw [hv2]), Evl.sz_of (hsh z hz), _, rfl, _, _, rfl, rfl, .inl (by decide), rfl, ?_⟩
      generalize decide (V.int (z.length : Int) = V.int (2 * (m : Int))) = b at hb ⊢
      -- if repr([word_error(row, value), is_history(row, value)]) != repr([due, is_full])
      refine ⟨_, rfl, _, rfl, pr, v, _, d, rfl, hrow3, hd3, fun u2 r2 K3 g3 hu2 hres2 => ?_⟩
      rw [rl] at hres2
      refine ⟨_, rfl, _, rfl, pr, v, _, d, rfl, g3 _ _ hrow3, hd3.mono g3, by rw [rl]; omega, hsh, fun b2 K4 g4 hb2 => ?_⟩
      rw [rl] at hb2
      rw [hres2.uniq hres] at hu2
      rw [hb2.uniq hb]
      refine ⟨(by show 2 ≤ sizeLine; decide), fun p2 hp2 => ⟨.ref p2, .list [r, .bool b], rfl, .lst upd_same (.cons ((hu2.mono g4).mono (Evl.Ex.new hp2)) (.cons (.bl _) .nil)), fit_two hnr (nice_bool b), pair_noDict hres, ?_⟩⟩
      have g5 : Ex K2 (upd K4 p2 (.lst [u2, .bl b])) := (g3.trans g4).trans (Evl.Ex.new hp2)
      generalize upd K4 p2 (.lst [u2, .bl b]) = K5 at g5 ⊢
      refine ⟨_, rfl, _, rfl, (by show 2 ≤ sizeLine; decide), fun p3 hp3 => ⟨.ref p3, .list [r, .bool b], rfl, .lst upd_same (.cons ((hdu.mono g5).mono (Evl.Ex.new hp3)) (.cons (.bl _) .nil)), fit_two hnr (nice_bool b), pair_noDict hres, rfl, _, rfl, ?_⟩⟩
      refine iteNS rfl ?_
      have g6 : Ex K2 (upd K5 p3 (.lst [du, .bl b])) := g5.trans (Evl.Ex.new hp3)
      generalize upd K5 p3 (.lst [du, .bl b]) = K6 at g6 ⊢
      -- if repr([row, value]) != shown
      refine ⟨_, rfl, _, rfl, (by show 2 ≤ sizeLine; decide), fun p4 hp4 np4 => ⟨.ref p4, .list [.tuple (rs.map .int), d], rfl, .lst upd_same (.cons (.tup (Evl.Ex.new hp4 _ _ (g6 _ _ hrow3)) (dv_ints _ rs)) (.cons ((hd3.mono g6).mono (Evl.Ex.new hp4)) .nil)), fit_two nrow hn, row_sys np4 hn, _, rfl, rfl, _, rfl, ?_⟩⟩
      refine iteNS rfl ?_
      exact ⟨⟨_, _, _, _, rfl⟩, (e3.trans g6).trans (Evl.Ex.new hp4)⟩
    · have nv : decide (du = V.non) = false := decide_eq_false (fun q => by subst q; cases hdu; exact hnone rfl)
      rw [nv]
      have hb : HistRes m d false := ⟨r, hres, by
        constructor
        · intro q; cases q
        · rintro ⟨q, _⟩; exact absurd q hnone⟩
      refine iteF ?_
      generalize false = b at hb ⊢
      -- if repr([word_error(row, value), is_history(row, value)]) != repr([due, is_full])
      refine ⟨_, rfl, _, rfl, pr, v, _, d, rfl, hrow3, hd3, fun u2 r2 K3 g3 hu2 hres2 => ?_⟩
      rw [rl] at hres2
      refine ⟨_, rfl, _, rfl, pr, v, _, d, rfl, g3 _ _ hrow3, hd3.mono g3, by rw [rl]; omega, hsh, fun b2 K4 g4 hb2 => ?_⟩
      rw [rl] at hb2
      rw [hres2.uniq hres] at hu2
      rw [hb2.uniq hb]
      refine ⟨(by show 2 ≤ sizeLine; decide), fun p2 hp2 => ⟨.ref p2, .list [r, .bool b], rfl, .lst upd_same (.cons ((hu2.mono g4).mono (Evl.Ex.new hp2)) (.cons (.bl _) .nil)), fit_two hnr (nice_bool b), pair_noDict hres, ?_⟩⟩
      have g5 : Ex K2 (upd K4 p2 (.lst [u2, .bl b])) := (g3.trans g4).trans (Evl.Ex.new hp2)
      generalize upd K4 p2 (.lst [u2, .bl b]) = K5 at g5 ⊢
      refine ⟨_, rfl, _, rfl, (by show 2 ≤ sizeLine; decide), fun p3 hp3 => ⟨.ref p3, .list [r, .bool b], rfl, .lst upd_same (.cons ((hdu.mono g5).mono (Evl.Ex.new hp3)) (.cons (.bl _) .nil)), fit_two hnr (nice_bool b), pair_noDict hres, rfl, _, rfl, ?_⟩⟩
      refine iteNS rfl ?_
      have g6 : Ex K2 (upd K5 p3 (.lst [du, .bl b])) := g5.trans (Evl.Ex.new hp3)
      generalize upd K5 p3 (.lst [du, .bl b]) = K6 at g6 ⊢
      -- if repr([row, value]) != shown
      refine ⟨_, rfl, _, rfl, (by show 2 ≤ sizeLine; decide), fun p4 hp4 np4 => ⟨.ref p4, .list [.tuple (rs.map .int), d], rfl, .lst upd_same (.cons (.tup (Evl.Ex.new hp4 _ _ (g6 _ _ hrow3)) (dv_ints _ rs)) (.cons ((hd3.mono g6).mono (Evl.Ex.new hp4)) .nil)), fit_two nrow hn, row_sys np4 hn, _, rfl, rfl, _, rfl, ?_⟩⟩
      refine iteNS rfl ?_
      exact ⟨⟨_, _, _, _, rfl⟩, (e3.trans g6).trans (Evl.Ex.new hp4)⟩
end
end Lr

namespace Lr
open PySem L2
theorem all_mk {l : PySem.W.OpenLaw} {w : World} {K : PySem.W.Frag} {h : Heap} {mg : Str → Option Value} {fa f1 f2 f3 f4 f5 f6 f7 f8 f9 f10 f11 f12 f13 f14 f15 : Addr} (X : K.In h) (G : h.Ns mainGlobals mg) (hfa : mg "law" = some (.ref fa))
    {od1 od2 od3 od4 od5 od6 od7 od8 od9 od10 od11 od12 od13 od14 od15 an1 an2 an3 an4 an5 an6 an7 an8 an9 an10 an11 an12 an13 an14 an15 : Option Addr}
    {sl1 sl2 sl3 sl4 sl5 sl6 sl7 sl8 sl9 sl10 sl11 sl12 sl13 sl14 sl15 : Array (Option Value)}
    {oc1 kV1 dc1 pm1 cd1 ct1 oc2 kV2 dc2 pm2 cd2 ct2 oc3 kV3 dc3 pm3 cd3 ct3 oc4 kV4 dc4 pm4 cd4 ct4 oc5 kV5 dc5 pm5 cd5 ct5 oc6 kV6 dc6 pm6 cd6 ct6 oc7 kV7 dc7 pm7 cd7 ct7 oc8 kV8 dc8 pm8 cd8 ct8 oc9 kV9 dc9 pm9 cd9 ct9 oc10 kV10 dc10 pm10 cd10 ct10 oc11 kV11 dc11 pm11 cd11 ct11 oc12 kV12 dc12 pm12 cd12 ct12 oc13 kV13 dc13 pm13 cd13 ct13 oc14 kV14 dc14 pm14 cd14 ct14 oc15 kV15 dc15 pm15 cd15 ct15 : Value}
    (a1 : PySem.W.nsIn K mainGlobals "letter_error" = some (some (.ref f1)))
    (l1 : K.lookup f1 = some ⟨oc1, od1, .func (PySem.W.fnOf "letter_error" "letter_error" (defArgs sLetter) (defBody sLetter) (defScope sLetter) .none kV1 dc1 pm1 an1 cd1 ct1), sl1⟩)
    (c1 : PySem.W.codeIn K cd1 "letter_error" = true)
    (k1 : PySem.W.keepIn K (.ref f1) = true)
    (a2 : PySem.W.nsIn K mainGlobals "step_error" = some (some (.ref f2)))
    (l2 : K.lookup f2 = some ⟨oc2, od2, .func (PySem.W.fnOf "step_error" "step_error" (defArgs sStep) (defBody sStep) (defScope sStep) .none kV2 dc2 pm2 an2 cd2 ct2), sl2⟩)
    (c2 : PySem.W.codeIn K cd2 "step_error" = true)
    (k2 : PySem.W.keepIn K (.ref f2) = true)
    (a3 : PySem.W.nsIn K mainGlobals "word_error" = some (some (.ref f3)))
    (l3 : K.lookup f3 = some ⟨oc3, od3, .func (PySem.W.fnOf "word_error" "word_error" (defArgs sWordE) (defBody sWordE) (defScope sWordE) .none kV3 dc3 pm3 an3 cd3 ct3), sl3⟩)
    (c3 : PySem.W.codeIn K cd3 "word_error" = true)
    (k3 : PySem.W.keepIn K (.ref f3) = true)
    (a4 : PySem.W.nsIn K mainGlobals "is_history" = some (some (.ref f4)))
    (l4 : K.lookup f4 = some ⟨oc4, od4, .func (PySem.W.fnOf "is_history" "is_history" (defArgs sIsHist) (defBody sIsHist) (defScope sIsHist) .none kV4 dc4 pm4 an4 cd4 ct4), sl4⟩)
    (c4 : PySem.W.codeIn K cd4 "is_history" = true)
    (k4 : PySem.W.keepIn K (.ref f4) = true)
    (a5 : PySem.W.nsIn K mainGlobals "_law_opened" = some (some (.ref f5)))
    (l5 : K.lookup f5 = some ⟨oc5, od5, .func (PySem.W.fnOf "_law_opened" "_law_opened" (defArgs sOpened) (defBody sOpened) (defScope sOpened) .none kV5 dc5 pm5 an5 cd5 ct5), sl5⟩)
    (c5 : PySem.W.codeIn K cd5 "_law_opened" = true)
    (k5 : PySem.W.keepIn K (.ref f5) = true)
    (a6 : PySem.W.nsIn K mainGlobals "_law_roll" = some (some (.ref f6)))
    (l6 : K.lookup f6 = some ⟨oc6, od6, .func (PySem.W.fnOf "_law_roll" "_law_roll" (defArgs sRoll) (defBody sRoll) (defScope sRoll) .none kV6 dc6 pm6 an6 cd6 ct6), sl6⟩)
    (c6 : PySem.W.codeIn K cd6 "_law_roll" = true)
    (k6 : PySem.W.keepIn K (.ref f6) = true)
    (a7 : PySem.W.nsIn K mainGlobals "_law_one" = some (some (.ref f7)))
    (l7 : K.lookup f7 = some ⟨oc7, od7, .func (PySem.W.fnOf "_law_one" "_law_one" (defArgs sOne) (defBody sOne) (defScope sOne) .none kV7 dc7 pm7 an7 cd7 ct7), sl7⟩)
    (c7 : PySem.W.codeIn K cd7 "_law_one" = true)
    (k7 : PySem.W.keepIn K (.ref f7) = true)
    (a8 : PySem.W.nsIn K mainGlobals "_law_mixed" = some (some (.ref f8)))
    (l8 : K.lookup f8 = some ⟨oc8, od8, .func (PySem.W.fnOf "_law_mixed" "_law_mixed" (defArgs sMixed) (defBody sMixed) (defScope sMixed) .none kV8 dc8 pm8 an8 cd8 ct8), sl8⟩)
    (c8 : PySem.W.codeIn K cd8 "_law_mixed" = true)
    (k8 : PySem.W.keepIn K (.ref f8) = true)
    (a9 : PySem.W.nsIn K mainGlobals "_law_rule" = some (some (.ref f9)))
    (l9 : K.lookup f9 = some ⟨oc9, od9, .func (PySem.W.fnOf "_law_rule" "_law_rule" (defArgs sRule) (defBody sRule) (defScope sRule) .none kV9 dc9 pm9 an9 cd9 ct9), sl9⟩)
    (c9 : PySem.W.codeIn K cd9 "_law_rule" = true)
    (k9 : PySem.W.keepIn K (.ref f9) = true)
    (a10 : PySem.W.nsIn K mainGlobals "_law_cars" = some (some (.ref f10)))
    (l10 : K.lookup f10 = some ⟨oc10, od10, .func (PySem.W.fnOf "_law_cars" "_law_cars" (defArgs sCars) (defBody sCars) (defScope sCars) .none kV10 dc10 pm10 an10 cd10 ct10), sl10⟩)
    (c10 : PySem.W.codeIn K cd10 "_law_cars" = true)
    (k10 : PySem.W.keepIn K (.ref f10) = true)
    (a11 : PySem.W.nsIn K mainGlobals "_law_day" = some (some (.ref f11)))
    (l11 : K.lookup f11 = some ⟨oc11, od11, .func (PySem.W.fnOf "_law_day" "_law_day" (defArgs sDay) (defBody sDay) (defScope sDay) .none kV11 dc11 pm11 an11 cd11 ct11), sl11⟩)
    (c11 : PySem.W.codeIn K cd11 "_law_day" = true)
    (k11 : PySem.W.keepIn K (.ref f11) = true)
    (a12 : PySem.W.nsIn K mainGlobals "_law_odd" = some (some (.ref f12)))
    (l12 : K.lookup f12 = some ⟨oc12, od12, .func (PySem.W.fnOf "_law_odd" "_law_odd" (defArgs sOdd) (defBody sOdd) (defScope sOdd) .none kV12 dc12 pm12 an12 cd12 ct12), sl12⟩)
    (c12 : PySem.W.codeIn K cd12 "_law_odd" = true)
    (k12 : PySem.W.keepIn K (.ref f12) = true)
    (a13 : PySem.W.nsIn K mainGlobals "_law_fault" = some (some (.ref f13)))
    (l13 : K.lookup f13 = some ⟨oc13, od13, .func (PySem.W.fnOf "_law_fault" "_law_fault" (defArgs sFault) (defBody sFault) (defScope sFault) .none kV13 dc13 pm13 an13 cd13 ct13), sl13⟩)
    (c13 : PySem.W.codeIn K cd13 "_law_fault" = true)
    (k13 : PySem.W.keepIn K (.ref f13) = true)
    (a14 : PySem.W.nsIn K mainGlobals "_law_twisted" = some (some (.ref f14)))
    (l14 : K.lookup f14 = some ⟨oc14, od14, .func (PySem.W.fnOf "_law_twisted" "_law_twisted" (defArgs sTwisted) (defBody sTwisted) (defScope sTwisted) .none kV14 dc14 pm14 an14 cd14 ct14), sl14⟩)
    (c14 : PySem.W.codeIn K cd14 "_law_twisted" = true)
    (k14 : PySem.W.keepIn K (.ref f14) = true)
    (a15 : PySem.W.nsIn K mainGlobals "law" = some (some (.ref f15)))
    (l15 : K.lookup f15 = some ⟨oc15, od15, .func (PySem.W.fnOf "law" "law" (defArgs sLaw) (defBody sLaw) (defScope sLaw) .none kV15 dc15 pm15 an15 cd15 ct15), sl15⟩)
    (c15 : PySem.W.codeIn K cd15 "law" = true)
    (k15 : PySem.W.keepIn K (.ref f15) = true)
    (zlen : PySem.W.nsIn K mainGlobals "len" = some none)
    (zrange : PySem.W.nsIn K mainGlobals "range" = some none)
    (ztuple : PySem.W.nsIn K mainGlobals "tuple" = some none)
    (zlist : PySem.W.nsIn K mainGlobals "list" = some none)
    (zabs : PySem.W.nsIn K mainGlobals "abs" = some none)
    (zint : PySem.W.nsIn K mainGlobals "int" = some none)
    (zstr : PySem.W.nsIn K mainGlobals "str" = some none)
    (zbool : PySem.W.nsIn K mainGlobals "bool" = some none)
    (zrepr : PySem.W.nsIn K mainGlobals "repr" = some none)
    (zisinstance : PySem.W.nsIn K mainGlobals "isinstance" = some none)
    (zenumerate : PySem.W.nsIn K mainGlobals "enumerate" = some none)
    (zsorted : PySem.W.nsIn K mainGlobals "sorted" = some none)
    (zset : PySem.W.nsIn K mainGlobals "set" = some none)
    (zall : PySem.W.nsIn K mainGlobals "all" = some none)
    (zmin : PySem.W.nsIn K mainGlobals "min" = some none)
    (zmax : PySem.W.nsIn K mainGlobals "max" = some none)
    (zany : PySem.W.nsIn K mainGlobals "any" = some none)
    (zzip : PySem.W.nsIn K mainGlobals "zip" = some none)
    (zsum : PySem.W.nsIn K mainGlobals "sum" = some none)
    (zreversed : PySem.W.nsIn K mainGlobals "reversed" = some none) :
    ∃ fd : FuncData, (∀ (s : Shared) (v : Value), BindsTo s fd ⟨[v], []⟩ [("_law_script", v)]) ∧ ∀ base : Heap, K.In base → base.Ns mainGlobals mg → FnG l.prog w K mg base 5 fa fd ["_law_script"] (spLaw K) := by
  have e := hfa.symm.trans (PySem.W.mg_of X G a15)
  cases e
  have T : Blt mg := ⟨PySem.W.mg_none_of X G zlen, PySem.W.mg_none_of X G zrange, PySem.W.mg_none_of X G ztuple, PySem.W.mg_none_of X G zlist, PySem.W.mg_none_of X G zabs, PySem.W.mg_none_of X G zint, PySem.W.mg_none_of X G zstr, PySem.W.mg_none_of X G zbool, PySem.W.mg_none_of X G zrepr, PySem.W.mg_none_of X G zisinstance, PySem.W.mg_none_of X G zenumerate, PySem.W.mg_none_of X G zsorted, PySem.W.mg_none_of X G zset, PySem.W.mg_none_of X G zall, PySem.W.mg_none_of X G zmin, PySem.W.mg_none_of X G zmax, PySem.W.mg_none_of X G zany, PySem.W.mg_none_of X G zzip, PySem.W.mg_none_of X G zsum, PySem.W.mg_none_of X G zreversed⟩
  have F1 := fun_mk (st := sLetter) l1 c1 k1
  have b1 := F1.binds (ps := ["value"]) fun _ _ _ _ _ _ us hl => match us, hl with | [_], _ => rfl
  have F2 := fun_mk (st := sStep) l2 c2 k2
  have b2 := F2.binds (ps := ["cars", "letters"]) fun _ _ _ _ _ _ us hl => match us, hl with | [_, _], _ => rfl
  have F3 := fun_mk (st := sWordE) l3 c3 k3
  have b3 := F3.binds (ps := ["row", "value"]) fun _ _ _ _ _ _ us hl => match us, hl with | [_, _], _ => rfl
  have F4 := fun_mk (st := sIsHist) l4 c4 k4
  have b4 := F4.binds (ps := ["row", "value"]) fun _ _ _ _ _ _ us hl => match us, hl with | [_, _], _ => rfl
  have F5 := fun_mk (st := sOpened) l5 c5 k5
  have b5 := F5.binds (ps := ["_law_script"]) fun _ _ _ _ _ _ us hl => match us, hl with | [_], _ => rfl
  have F6 := fun_mk (st := sRoll) l6 c6 k6
  have b6 := F6.binds (ps := ["_law_can", "_law_many"]) fun _ _ _ _ _ _ us hl => match us, hl with | [_, _], _ => rfl
  have F7 := fun_mk (st := sOne) l7 c7 k7
  have b7 := F7.binds (ps := ["_law_can", "_law_items"]) fun _ _ _ _ _ _ us hl => match us, hl with | [_, _], _ => rfl
  have F8 := fun_mk (st := sMixed) l8 c8 k8
  have b8 := F8.binds (ps := ["_law_can", "_law_many"]) fun _ _ _ _ _ _ us hl => match us, hl with | [_, _], _ => rfl
  have F9 := fun_mk (st := sRule) l9 c9 k9
  have b9 := F9.binds (ps := ["_law_can", "_law_upto"]) fun _ _ _ _ _ _ us hl => match us, hl with | [_, _], _ => rfl
  have F10 := fun_mk (st := sCars) l10 c10 k10
  have b10 := F10.binds (ps := ["_law_can", "_law_rule_here", "_law_upto"]) fun _ _ _ _ _ _ us hl => match us, hl with | [_, _, _], _ => rfl
  have F11 := fun_mk (st := sDay) l11 c11 k11
  have b11 := F11.binds (ps := ["_law_can", "_law_many", "_law_way"]) fun _ _ _ _ _ _ us hl => match us, hl with | [_, _, _], _ => rfl
  have F12 := fun_mk (st := sOdd) l12 c12 k12
  have b12 := F12.binds (ps := ["_law_can"]) fun _ _ _ _ _ _ us hl => match us, hl with | [_], _ => rfl
  have F13 := fun_mk (st := sFault) l13 c13 k13
  have b13 := F13.binds (ps := ["_law_row", "_law_value"]) fun _ _ _ _ _ _ us hl => match us, hl with | [_, _], _ => rfl
  have F14 := fun_mk (st := sTwisted) l14 c14 k14
  have b14 := F14.binds (ps := ["_law_can", "_law_word"]) fun _ _ _ _ _ _ us hl => match us, hl with | [_, _], _ => rfl
  have F15 := fun_mk (st := sLaw) l15 c15 k15
  refine ⟨PySem.W.fnOf "law" "law" (defArgs sLaw) (defBody sLaw) (defScope sLaw) .none kV15 dc15 pm15 an15 cd15 ct15, fun s v => .of_eq rfl, fun base _ _ => ?_⟩
  have h__law_roll : Cal l.prog w K mg base 1 "_law_roll" ["_law_can", "_law_many"] (spRoll l.prog w) := ⟨f6, _, ok_roll F6 T.len, PySem.W.mg_of X G a6, k6, b6⟩
  have h__law_one : Cal l.prog w K mg base 2 "_law_one" ["_law_can", "_law_items"] (spOne l.prog w) := ⟨f7, _, ok_one F7 T h__law_roll, PySem.W.mg_of X G a7, k7, b7⟩
  have h__law_opened : Cal l.prog w K mg base 1 "_law_opened" ["_law_script"] (spOpened l.prog w K) := ⟨f5, _, ok_opened F5 T, PySem.W.mg_of X G a5, k5, b5⟩
  have h__law_mixed : Cal l.prog w K mg base 2 "_law_mixed" ["_law_can", "_law_many"] (spMixed l.prog w) := ⟨f8, _, ok_mixed F8 T h__law_roll, PySem.W.mg_of X G a8, k8, b8⟩
  have h__law_rule : Cal l.prog w K mg base 3 "_law_rule" ["_law_can", "_law_upto"] (spRule l.prog w) := ⟨f9, _, ok_rule F9 T h__law_roll h__law_mixed, PySem.W.mg_of X G a9, k9, b9⟩
  have h__law_cars : Cal l.prog w K mg base 3 "_law_cars" ["_law_can", "_law_rule_here", "_law_upto"] (spCars l.prog w) := ⟨f10, _, ok_cars F10 T h__law_roll h__law_one, PySem.W.mg_of X G a10, k10, b10⟩
  have h__law_day : Cal l.prog w K mg base 2 "_law_day" ["_law_can", "_law_many", "_law_way"] (spDay l.prog w) := ⟨f11, _, ok_day F11 T h__law_roll, PySem.W.mg_of X G a11, k11, b11⟩
  have h__law_odd : Cal l.prog w K mg base 3 "_law_odd" ["_law_can"] (spOdd l.prog w) := ⟨f12, _, ok_odd F12 T h__law_one, PySem.W.mg_of X G a12, k12, b12⟩
  have h__law_twisted : Cal l.prog w K mg base 3 "_law_twisted" ["_law_can", "_law_word"] (spTwist l.prog w) := ⟨f14, _, ok_twist F14 T h__law_roll h__law_one, PySem.W.mg_of X G a14, k14, b14⟩
  have h__law_fault : Cal l.prog w K mg base 1 "_law_fault" ["_law_row", "_law_value"] spFault := ⟨f13, _, ok_fault F13 T, PySem.W.mg_of X G a13, k13, b13⟩
  have h_letter_error : Cal l.prog w K mg base 1 "letter_error" ["value"] spLetter := ⟨f1, _, ok_letter F1 T, PySem.W.mg_of X G a1, k1, b1⟩
  have h_step_error : Cal l.prog w K mg base 1 "step_error" ["cars", "letters"] spStep := ⟨f2, _, ok_step F2 T, PySem.W.mg_of X G a2, k2, b2⟩
  have h_word_error : Cal l.prog w K mg base 2 "word_error" ["row", "value"] spWordE := ⟨f3, _, ok_wordE F3 T h_letter_error h_step_error, PySem.W.mg_of X G a3, k3, b3⟩
  have h_is_history : Cal l.prog w K mg base 3 "is_history" ["row", "value"] spIsHist := ⟨f4, _, ok_isHist F4 T h_word_error, PySem.W.mg_of X G a4, k4, b4⟩
  exact ok_law F15 T h__law_opened h__law_roll h__law_rule h__law_cars h__law_day h__law_odd h__law_twisted h__law_fault h_word_error h_is_history
end Lr
open PySem PySem.W PyProof.Rows
set_option maxRecDepth 100000 in
set_option maxHeartbeats 0 in
theorem PySem.Challenge.cw_lanerules_k06_words_judged_holds : PySem.Challenge.rw_lanerules_k06_words_judged.Holds := by
  w_on; o_law; k_head; (case hw => w_witness2)
  k_fill
  refine Lr.walkG (l := PySem.Challenge.rw_lanerules_k06_words_judged) (n := 63) (k := 5) (x := "_law_script") (sp := fun w => Lr.spLaw _) rfl (by decide) rfl ⟨rfl, by decide, by decide⟩ (fun w h Y => PySem.W.kIn_of Y) ?F (fun w H a ns hl hS => ⟨a, ns, rfl, hS, hl, fun _ => rfl⟩)
  case F =>
    intro w mg fa h KX G hmg
    refine' Lr.all_mk KX G hmg ?a1 ?l1 ?c1 ?k1 ?a2 ?l2 ?c2 ?k2 ?a3 ?l3 ?c3 ?k3 ?a4 ?l4 ?c4 ?k4 ?a5 ?l5 ?c5 ?k5 ?a6 ?l6 ?c6 ?k6 ?a7 ?l7 ?c7 ?k7 ?a8 ?l8 ?c8 ?k8 ?a9 ?l9 ?c9 ?k9 ?a10 ?l10 ?c10 ?k10 ?a11 ?l11 ?c11 ?k11 ?a12 ?l12 ?c12 ?k12 ?a13 ?l13 ?c13 ?k13 ?a14 ?l14 ?c14 ?k14 ?a15 ?l15 ?c15 ?k15 ?zlen ?zrange ?ztuple ?zlist ?zabs ?zint ?zstr ?zbool ?zrepr ?zisinstance ?zenumerate ?zsorted ?zset ?zall ?zmin ?zmax ?zany ?zzip ?zsum ?zreversed
    (case a1 => k_is); (case l1 => k_is); (case c1 => k_is); (case k1 => k_is); (case a2 => k_is); (case l2 => k_is)
    (case c2 => k_is); (case k2 => k_is); (case a3 => k_is); (case l3 => k_is); (case c3 => k_is); (case k3 => k_is)
    (case a4 => k_is); (case l4 => k_is); (case c4 => k_is); (case k4 => k_is); (case a5 => k_is); (case l5 => k_is)
    (case c5 => k_is); (case k5 => k_is); (case a6 => k_is); (case l6 => k_is); (case c6 => k_is); (case k6 => k_is)
    (case a7 => k_is); (case l7 => k_is); (case c7 => k_is); (case k7 => k_is); (case a8 => k_is); (case l8 => k_is)
    (case c8 => k_is); (case k8 => k_is); (case a9 => k_is); (case l9 => k_is); (case c9 => k_is); (case k9 => k_is)
    (case a10 => k_is); (case l10 => k_is); (case c10 => k_is); (case k10 => k_is); (case a11 => k_is); (case l11 => k_is)
    (case c11 => k_is); (case k11 => k_is); (case a12 => k_is); (case l12 => k_is); (case c12 => k_is); (case k12 => k_is)
    (case a13 => k_is); (case l13 => k_is); (case c13 => k_is); (case k13 => k_is); (case a14 => k_is); (case l14 => k_is)
    (case c14 => k_is); (case k14 => k_is); (case a15 => k_is); (case l15 => k_is); (case c15 => k_is); (case k15 => k_is)
    (case zlen => k_is); (case zrange => k_is); (case ztuple => k_is); (case zlist => k_is); (case zabs => k_is); (case zint => k_is)
    (case zstr => k_is); (case zbool => k_is); (case zrepr => k_is); (case zisinstance => k_is); (case zenumerate => k_is); (case zsorted => k_is)
    (case zset => k_is); (case zall => k_is); (case zmin => k_is); (case zmax => k_is); (case zany => k_is); (case zzip => k_is)
    (case zsum => k_is); (case zreversed => k_is)
